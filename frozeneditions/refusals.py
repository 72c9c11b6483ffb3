"""What a refused call answers."""

NOT_AS_TOLD = -1
FULL = -4
NO_ENTRY = -5
NO_SENSE = -6
NO_PLACE = -7
NO_EDITION = -8
