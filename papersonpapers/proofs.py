"""Proofs: the row of steps for what stands, the closed set for what doesn't, and whether one told is right."""

from papersonpapers.known import grounds_of
from papersonpapers.standing import come_to


# Gives back which of its grounds, from 1, a pair that stands has for proofs.
def proof_ground(known, pair, ranks):
    fitting = []
    for place, ground in enumerate(grounds_of(known, pair), start=1):
        if all([rest in ranks and ranks[rest] < ranks[pair] for rest in ground]):
            fitting.append(place)
    return fitting[0]


def proof_rests(known, pair, ranks):
    return grounds_of(known, pair)[proof_ground(known, pair, ranks) - 1]


def proof_steps(known, asked, ranks):
    row = come_to(asked, lambda one: proof_rests(known, one, ranks))
    steps = []
    for pair in sorted(row, key=lambda one: ranks[one]):
        steps.append((pair[0], pair[1], proof_ground(known, pair, ranks)))
    return steps


def first_fallen(known, pair, ranks):
    fallen = []
    for ground in grounds_of(known, pair):
        fallen.append([rest for rest in ground if rest not in ranks][0])
    return fallen


def closed_set(known, asked, ranks):
    return come_to(asked, lambda one: first_fallen(known, one, ranks))


def steps_are_right(known, asked, steps):
    before = {}
    for step in steps:
        pair = (step[0], step[1])
        grounds = grounds_of(known, pair)
        if not 1 <= step[2] <= len(grounds):
            return False
        if not all([rest in before for rest in grounds[step[2] - 1]]):
            return False
        before[pair] = True
    return asked in before


def set_is_right(known, asked, pairs):
    members = {}
    for pair in pairs:
        members[pair] = True
    for pair in pairs:
        for ground in grounds_of(known, pair):
            if not any([rest in members for rest in ground]):
                return False
    return asked in members
