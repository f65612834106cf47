"""The codes that a refused call answers."""

NO_WEIGHER = -11
NO_HOPPER = -2
OUTSIDE_LIMITS = -22
QUEUE_FULL = -28
NO_FILLING_SET = -33
HOPPER_EMPTY = -6
