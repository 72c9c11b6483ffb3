"""The kinds of changes from a book to another one."""

ENTRY_DROPPED = 1
SENSE_DROPPED = 2
ENTRY_NEW = 3
ENTRY_MOVED = 4
SENSE_NEW = 5
SENSE_MOVED = 6
SAID = 7
POINTED = 8

# By the kind: how many of a change's three numbers it has; 0 is no kind.
NUMBERS = (0, 1, 1, 2, 2, 3, 3, 1, 2)
