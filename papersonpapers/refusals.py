"""The number with which an answer begins: that of a refusal, or that of any other answer."""

from papersonpapers.limits import is_day, is_number

ACCEPTED = 0
OUT_OF_RANGE = -2
NONE_SUCH = -3
TOLD_ALREADY = -4
GONE_BY = -5
FULL = -6
NOT_YET = -7
WRONG_LIST = -9


# What is due to the number of a paper or a revocation, a day, and a day as known at.
def refusal_of_asked(house, number, day, known_day):
    if not is_number(number):
        return OUT_OF_RANGE
    return refusal_of_days(house, day, known_day)


def refusal_of_days(house, day, known_day):
    if not is_day(day):
        return OUT_OF_RANGE
    return refusal_of_known_day(house, known_day)


def refusal_of_known_day(house, known_day):
    if not is_day(known_day):
        return OUT_OF_RANGE
    if known_day > house.today:
        return NOT_YET
    return ACCEPTED
