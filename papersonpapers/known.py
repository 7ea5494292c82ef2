"""What is known at a day, and what is good by itself by it. A pair is a paper's number and a day."""


class Known:
    def __init__(self, papers, revocations):
        self.papers = papers
        self.revocations = revocations


def known_at(house, day):
    papers = {}
    for paper in house.papers.values():
        if paper.heard <= day:
            papers[paper.number] = paper
    revocations = [revocation for revocation in house.revocations.values() if counts_at(revocation, day)]
    return Known(papers, revocations)


def counts_at(revocation, day):
    if revocation.heard > day:
        return False
    return revocation.taken_back is None or day < revocation.taken_back


def without_revocation(known, left_out):
    return Known(known.papers, [one for one in known.revocations if one.number != left_out.number])


# Gives back the known revocation with this number, or None.
def find_revocation(known, number):
    for revocation in known.revocations:
        if revocation.number == number:
            return revocation
    return None


def hits(revocation, pair):
    return revocation.paper == pair[0] and revocation.since <= pair[1]


# Gives back the first known revocation, as told, that hits the pair, or None.
def revocation_of(known, pair):
    for revocation in known.revocations:
        if hits(revocation, pair):
            return revocation
    return None


def good_by_itself(known, pair):
    if pair[0] not in known.papers:
        return False
    paper = known.papers[pair[0]]
    return paper.first <= pair[1] <= paper.last and revocation_of(known, pair) is None


# Gives back the pair's grounds, each a list of pairs. One that isn't good by itself has none here:
# so it can neither stand nor ask for anything more in a closed set.
def grounds_of(known, pair):
    if not good_by_itself(known, pair):
        return []
    paper = known.papers[pair[0]]
    return [rests_on(ground, paper.first, pair[1]) for ground in paper.grounds]


def rests_on(ground, first, day):
    return [(rest[0], first if rest[1] == 1 else day) for rest in ground]
