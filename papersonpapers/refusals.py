"""The number with which an answer begins: that of a refusal, or that of any other answer."""

ACCEPTED = 0
OUT_OF_RANGE = -2
NONE_SUCH = -3
TOLD_ALREADY = -4
GONE_BY = -5
FULL = -6
NOT_YET = -7
WRONG_LIST = -9
