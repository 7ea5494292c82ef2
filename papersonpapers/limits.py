"""The bounds of what may be told."""

LAST_DAY = 9999
LAST_NUMBER = 999
MOST_PAPERS = 24
MOST_REVOCATIONS = 20
MOST_DECISIONS = 30
MOST_GROUNDS = 3
MOST_RESTS = 4


def is_number(value):
    return 1 <= value <= LAST_NUMBER


def is_day(value):
    return 0 <= value <= LAST_DAY
