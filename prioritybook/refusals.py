"""The numbers that a refused call answers."""

OUT_OF_RANGE = -3
NO_DATE = -2
BAD_LIST = -4
NO_PAPER = -5
NUMBER_TAKEN = -6
DOES_NOT_FIT = -7
NOTHING_TO_CHANGE = -8
FULL = -9
