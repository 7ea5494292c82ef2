"""What stands, and of which rank, by what is known."""

from papersonpapers.known import grounds_of


# Begins with one pair and goes on in rounds; following(pair) gives the pairs that come of a pair.
def come_to(start, following):
    row = [start]
    seen = {start: True}
    place = 0
    while place < len(row):
        found = following(row[place])
        for pair in found:
            if pair not in seen:
                seen[pair] = True
                row.append(pair)
        place += 1
    return row


def all_rests(grounds):
    rests = []
    for ground in grounds:
        rests.extend(ground)
    return rests


# Gives back the grounds of the started pairs and of all that these may rest on.
def grounds_under(known, started):
    grounds = {}
    waiting = list(started)
    place = 0
    while place < len(waiting):
        pair = waiting[place]
        if pair not in grounds:
            grounds[pair] = grounds_of(known, pair)
            waiting.extend(all_rests(grounds[pair]))
        place += 1
    return grounds


# Gives back the ranks of those that stand among the started pairs and all that these may rest on.
# Nothing else has a say in whether one of these stands, so nothing else is looked at.
def ranks_under(known, started):
    grounds = grounds_under(known, started)
    leaning = leaning_on(grounds)
    ranks = {}
    fresh = [pair for pair in grounds if has_full_ground(grounds[pair], ranks)]
    rank = 1
    while len(fresh) > 0:
        for pair in fresh:
            ranks[pair] = rank
        fresh = newly_standing(fresh, grounds, leaning, ranks)
        rank += 1
    return ranks


def is_standing(known, pair):
    return pair in ranks_under(known, [pair])


def papers_on(known, day):
    return [(number, day) for number in known.papers]


# Gives back the numbers of all papers that stand on the day, as told.
def standing_on(known, day):
    ranks = ranks_under(known, papers_on(known, day))
    return [number for number in known.papers if (number, day) in ranks]


# Gives back, for each pair, those that have it among their rests.
def leaning_on(grounds):
    leaning = {}
    for pair in grounds:
        leaning[pair] = []
    for pair in grounds:
        for rest in all_rests(grounds[pair]):
            leaning[rest].append(pair)
    return leaning


def has_full_ground(grounds, ranks):
    for ground in grounds:
        if is_full(ground, ranks):
            return True
    return False


def is_full(ground, ranks):
    for rest in ground:
        if rest not in ranks:
            return False
    return True


# Only those that lean on what stood up in the last round can stand up in this one.
def newly_standing(fresh, grounds, leaning, ranks):
    leaners = {}
    for pair in fresh:
        for leaner in leaning[pair]:
            leaners[leaner] = True
    return [pair for pair in leaners if pair not in ranks and has_full_ground(grounds[pair], ranks)]
