"""What a refused call answers."""

NOT_AS_TOLD = -1
NO_CHANGES = -3
FULL = -4
NO_ENTRY = -5
NO_SENSE = -6
NO_PLACE = -7
NO_EDITION = -8
# The same number as of an entry that isn't there.
NO_LINE = -5
