"""Rows of numbers, and the tuples of which they are made."""


def is_made_of(row, size):
    return len(row) % size == 0 and all([number >= 0 for number in row])


def parts(row, size):
    return [tuple(row[place:place + size]) for place in range(0, len(row), size)]


def flat(tuples):
    row = []
    for one in tuples:
        row.extend(one)
    return row
