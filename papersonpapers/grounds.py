"""Reads the list in which a paper's grounds are told."""

from papersonpapers.limits import MOST_GROUNDS, MOST_RESTS, is_number


# Gives back the grounds, or None if the list isn't as told.
def read_grounds(row):
    grounds = []
    place = 0
    while place < len(row):
        many = row[place]
        end = place + 1 + 2 * many
        if len(grounds) == MOST_GROUNDS or not 0 <= many <= MOST_RESTS or end > len(row):
            return None
        ground = read_rests(row[place + 1:end])
        if ground is None:
            return None
        grounds.append(ground)
        place = end
    return grounds


def read_rests(row):
    rests = []
    for place in range(0, len(row), 2):
        rest = (row[place], row[place + 1])
        if not is_rest(rest) or rest in rests:
            return None
        rests.append(rest)
    return rests


def is_rest(rest):
    return is_number(rest[0]) and 0 <= rest[1] <= 1
