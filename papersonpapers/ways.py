"""What a revocation pulls down, and the way by which it does."""

from papersonpapers.known import grounds_of, hits, without_revocation
from papersonpapers.standing import all_rests, ranks_under


# Gives back those that are pulled down among the started pairs and all that these may rest on.
def pulled_down(known, revocation, started):
    spared = ranks_under(without_revocation(known, revocation), started)
    standing = ranks_under(known, list(spared))
    pulled = {}
    for pair in spared:
        if pair not in standing:
            pulled[pair] = True
    return pulled


# One that is pulled down is hit itself, or has a rest that is pulled down and of a lesser rank without
# the revocation: so a way is always found before the ways run out.
def way_down(known, revocation, pulled, asked):
    ways = [[asked]]
    seen = {asked: True}
    place = 0
    while not hits(revocation, ways[place][-1]):
        way = ways[place]
        rests = all_rests(grounds_of(known, way[-1]))
        for rest in rests:
            if rest in pulled and rest not in seen:
                seen[rest] = True
                ways.append(way + [rest])
        place += 1
    return ways[place]
