"""The calls' numbers, and how a call stands in the list that is handed in."""

DAY = 0
PAPER = 1
REVOKE = 2
BACK = 3
STANDS = 4
WHY = 5
PROOF = 6
TREE = 7
SHUT = 8
ALL_THAT_STAND = 9
SPANS = 10
PULLED = 11
CHAIN = 12
MOVED = 13
DECIDE = 14
REVIEW = 15
TOLD_OF = 16
SIZES = 17

# Of each call, by its number: how many whole numbers it has, and whether a row comes behind them.
SHAPES = {
    0: (1, False),
    1: (3, True),
    2: (3, False),
    3: (1, False),
    4: (3, False),
    5: (3, False),
    6: (3, False),
    7: (3, True),
    8: (3, True),
    9: (2, False),
    10: (2, False),
    11: (3, False),
    12: (4, False),
    13: (3, False),
    14: (2, False),
    15: (0, False),
    16: (1, False),
    17: (0, False),
}


class Call:
    def __init__(self, number, numbers, row, end):
        self.number = number
        self.numbers = numbers
        self.row = row
        # The place in the list at which the call behind this one begins.
        self.end = end


def read_call(calls, place):
    number = calls[place]
    shape = SHAPES[number]
    row_at = place + 1 + shape[0]
    numbers = calls[place + 1:row_at]
    if not shape[1]:
        return Call(number, numbers, [], row_at)
    end = row_at + 1 + calls[row_at]
    return Call(number, numbers, calls[row_at + 1:end], end)
