"""Keptlikes: doubles struck by a nearness that does not pass on."""
