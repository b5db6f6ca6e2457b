"""What answers are made of: the numbers of refusals, and rows."""

OUT_OF_RANGE = -1
ALREADY_BEGUN = -3
TOO_LATE = -4
TOO_EARLY = -4
ORDER_LACKS = -5
HAS_RESULT = -5
MISSING = -6
NOT_POSSIBLE = -7
FULL = -9


def as_row(numbers):
    return [len(numbers)] + numbers
