"""The codes that a refused call answers."""

NO_WEIGHER = -11
OUTSIDE_LIMITS = -22
QUEUE_FULL = -28
