"""Writes calls, splits answers, and tells by another way than the program what stands."""

from papersonpapers.house import answers

HUGE = 1000000000000000000

# A paper that always stands while its days last: one ground without rests.
FREE = [0]


def day(k):
    return [0, k]


def paper(number, first=0, last=9999, grounds=FREE):
    return [1, number, first, last, len(grounds)] + list(grounds)


def revoke(number, of, since=0):
    return [2, number, of, since]


def back(number):
    return [3, number]


def stands(of, d=0, k=0):
    return [4, of, d, k]


def why(of, d=0, k=0):
    return [5, of, d, k]


def proof(of, d=0, k=0):
    return [6, of, d, k]


def tree(of, d, k, steps):
    return [7, of, d, k, len(steps)] + list(steps)


def shut(of, d, k, members):
    return [8, of, d, k, len(members)] + list(members)


def all_that_stand(d=0, k=0):
    return [9, d, k]


def spans(of, k=0):
    return [10, of, k]


def pulled(revocation, d=0, k=0):
    return [11, revocation, d, k]


def chain(revocation, of, d=0, k=0):
    return [12, revocation, of, d, k]


def moved(d, k, m):
    return [13, d, k, m]


def decide(of, d=0):
    return [14, of, d]


def review():
    return [15]


def told_of(of):
    return [16, of]


def sizes():
    return [17]


def split(given):
    rows = []
    place = 0
    while place < len(given):
        end = place + 1 + given[place]
        rows.append(given[place + 1:end])
        place = end
    return rows


def run(*calls):
    return split(answers([number for call in calls for number in call]))


def last(*calls):
    return run(*calls)[-1]


def behind(told, *asked):
    """The answers to what is asked alone, behind what is told."""
    return run(*told, *asked)[len(told):]


def ground(*rests):
    row = [len(rests)]
    for rest in rests:
        row.extend(rest)
    return row


class Model:
    """Slow and plain: reads the calls that tell, then answers by the document's words."""

    def __init__(self, calls, k):
        self.papers = {}
        self.revocations = {}
        self.ranks = {}
        self.least_ranks = {}
        self.spared = {}
        today = 0
        for call in calls:
            if call[0] == 0:
                today = call[1]
            if today > k:
                break
            self.hear(call)

    def hear(self, call):
        if call[0] == 1:
            self.papers[call[1]] = (call[2], call[3], self.grounds_in(call[5:]))
        if call[0] == 2:
            self.revocations[call[1]] = (call[2], call[3])
        if call[0] == 3:
            del self.revocations[call[1]]

    @staticmethod
    def grounds_in(row):
        row = list(row)
        grounds = []
        while row:
            many = row.pop(0)
            grounds.append([(row.pop(0), row.pop(0)) for _ in range(many)])
        return grounds

    def good(self, number, d):
        if number not in self.papers:
            return False
        first, final, _ = self.papers[number]
        revoked = any(of == number and since <= d for of, since in self.revocations.values())
        return first <= d <= final and not revoked

    def rests(self, number, d):
        first, _, grounds = self.papers[number]
        return [[(of, first if own else d) for of, own in row] for row in grounds]

    def within(self, rank, number, d):
        """Whether it stands with this rank or a lesser one."""
        key = (rank, number, d)
        if key not in self.ranks:
            self.ranks[key] = rank > 0 and self.good(number, d) and any(
                all(self.within(rank - 1, *rest) for rest in row) for row in self.rests(number, d))
        return self.ranks[key]

    def days(self, d):
        return {d} | {row[0] for row in self.papers.values()}

    def rank(self, number, d):
        """Its rank, or None: no rank is beyond the count of papers on days."""
        if (number, d) not in self.least_ranks:
            ranks = range(1, len(self.papers) * len(self.days(d)) + 1)
            self.least_ranks[number, d] = next((rank for rank in ranks if self.within(rank, number, d)), None)
        return self.least_ranks[number, d]

    def why(self, number, d):
        if self.rank(number, d) is not None:
            return [0, 0]
        if number not in self.papers:
            return [0, 1]
        first, final, _ = self.papers[number]
        if not first <= d <= final:
            return [0, 2 if d < first else 3]
        for revocation, (of, since) in self.revocations.items():
            if of == number and since <= d:
                return [0, 4, revocation]
        return [0, 5]

    def proof(self, number, d):
        rank = self.rank(number, d)
        if rank is None:
            return [0, 0] + self.closed_set(number, d)
        row = self.rounds((number, d), self.rests_of_its_ground)
        row = sorted(row, key=lambda pair: self.rank(*pair))
        return [0, 1] + [n for pair in row for n in (*pair, self.its_ground(*pair) + 1)]

    def its_ground(self, number, d):
        rank = self.rank(number, d)
        for place, row in enumerate(self.rests(number, d)):
            if all(self.within(rank - 1, *rest) for rest in row):
                return place

    def rests_of_its_ground(self, number, d):
        return self.rests(number, d)[self.its_ground(number, d)]

    def closed_set(self, number, d):
        row = self.rounds((number, d), self.first_that_do_not_stand)
        return [n for pair in row for n in pair]

    def first_that_do_not_stand(self, number, d):
        if not self.good(number, d):
            return []
        return [next(rest for rest in row if self.rank(*rest) is None) for row in self.rests(number, d)]

    @staticmethod
    def rounds(start, following):
        row = [start]
        while True:
            longer = list(row)
            for pair in row:
                longer += [new for new in dict.fromkeys(following(*pair)) if new not in longer]
            if longer == row:
                return row
            row = longer

    def stands(self, number, d):
        return self.rank(number, d) is not None

    def all(self, d):
        return [number for number in self.papers if self.stands(number, d)]

    def spans(self, number, final):
        """Day by day, up to a day behind which nothing is good any more."""
        row = []
        for d in range(final + 1):
            if self.stands(number, d):
                if row and row[-1] == d - 1:
                    row[-1] = d
                else:
                    row += [d, d]
        return row

    def without(self, revocation):
        if revocation not in self.spared:
            model = Model([], 0)
            model.papers = self.papers
            model.revocations = {number: row for number, row in self.revocations.items() if number != revocation}
            self.spared[revocation] = model
        return self.spared[revocation]

    def pulls(self, revocation, number, d):
        return self.without(revocation).stands(number, d) and not self.stands(number, d)

    def pulled(self, revocation, d):
        return [number for number in self.papers if self.pulls(revocation, number, d)]

    def chain(self, revocation, number, d):
        if not self.pulls(revocation, number, d):
            return [0, 0]
        of, since = self.revocations[revocation]
        ways = [[(number, d)]]
        before = [(number, d)]
        while True:
            for way in ways:
                if way[-1][0] == of and way[-1][1] >= since:
                    return [0, 1] + [n for pair in way for n in pair]
            longer = []
            for way in ways:
                for rest in [rest for row in self.rests(*way[-1]) for rest in row]:
                    if self.pulls(revocation, *rest) and rest not in before:
                        before.append(rest)
                        longer.append(way + [rest])
            ways = longer
            if not ways:
                return None
