"""The numbers that a refused call answers."""

OUT_OF_RANGE = -2
NOT_GIVEN_OUT = -3
THERE_ALREADY = -4
NOT_THERE = -5
WRONG_TIME = -6
NO_SLOT_FOR_IT = -7
FULL = -8
CANCELLED_OR_WITHOUT_SLOT = -9
# The same number, for a slot and not for a flight.
NOT_OPEN = -9
DO_NOT_FIT = -10
MAY_NOT_HAVE = -11
SOMEBODY_LOSES = -12
NOT_ALL = -13
