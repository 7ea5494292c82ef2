"""What stands, and of which rank, by what is known."""

from papersonpapers.known import grounds_of


# Begins with one pair and goes on in rounds; following(pair) gives the pairs that come of a pair.
def come_to(start, following):
    row = [start]
    seen = {start: True}
    place = 0
    while place < len(row):
        found = following(row[place])
        for pair in found:
            if pair not in seen:
                seen[pair] = True
                row.append(pair)
        place += 1
    return row


def all_rests(grounds):
    rests = []
    for ground in grounds:
        rests.extend(ground)
    return rests


# Gives back the ranks of those that stand among the asked pair and all that it may rest on.
# Nothing else has a say in whether the asked one stands, so nothing else is looked at.
def ranks_under(known, asked):
    grounds = {}
    for pair in come_to(asked, lambda one: all_rests(grounds_of(known, one))):
        grounds[pair] = grounds_of(known, pair)
    leaning = leaning_on(grounds)
    ranks = {}
    fresh = [pair for pair in grounds if has_full_ground(grounds[pair], ranks)]
    rank = 1
    while len(fresh) > 0:
        for pair in fresh:
            ranks[pair] = rank
        fresh = newly_standing(fresh, grounds, leaning, ranks)
        rank += 1
    return ranks


# Gives back, for each pair, those that have it among their rests.
def leaning_on(grounds):
    leaning = {}
    for pair in grounds:
        leaning[pair] = []
    for pair in grounds:
        for rest in all_rests(grounds[pair]):
            leaning[rest].append(pair)
    return leaning


def has_full_ground(grounds, ranks):
    return any([is_full(ground, ranks) for ground in grounds])


def is_full(ground, ranks):
    return all([rest in ranks for rest in ground])


# Only those that lean on what stood up in the last round can stand up in this one.
def newly_standing(fresh, grounds, leaning, ranks):
    found = {}
    for pair in fresh:
        for leaner in leaning[pair]:
            if leaner not in ranks and has_full_ground(grounds[leaner], ranks):
                found[leaner] = True
    return list(found)
