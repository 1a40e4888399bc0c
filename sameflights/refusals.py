"""The first number of an answer: DONE, or why the call is refused."""

DONE = 0
OUT_OF_RANGE = -2
NO_SUCH_FLIGHT = -4
THERE_ALREADY = -5
TABLE_FULL = -6
UNBALANCED_OR_UNLINKED = -7
VALUES_UNFIT = -8
