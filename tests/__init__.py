"""Tests of keptlikes."""
