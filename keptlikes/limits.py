"""The limits that the package keeps to."""

MOST_THINGS = 9
MOST_TRIED = 7
MOST_ROWS = 20
MOST_LETTERS = 20
