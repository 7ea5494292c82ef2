"""The promises, over many houses that are drawn with fixed seeds."""

import random
import unittest

from tests.helper import Model, back, day, ground, paper, proof, revoke, run, shut, stands, tree, why

SEEDS = range(150)
DAYS = (0, 3, 6, 9, 12)


def draw_rest(draw, number):
    """Mostly of a lesser number, so that rows of papers get long; at times of any, so that rings come."""
    most = 9 if draw.random() < 0.3 else max(number - 1, 1)
    return draw.randint(1, most), draw.randint(0, 1)


def draw_grounds(draw, number):
    if number < 3:
        return [0]
    row = []
    for _ in range(draw.choice((0, 1, 2, 2, 2, 3, 3, 3))):
        rests = {draw_rest(draw, number) for _ in range(draw.choice((0, 1, 1, 2, 2, 2, 2, 3, 3, 4, 4)))}
        row += ground(*draw.sample(sorted(rests), len(rests)))
    return row


def draw_paper(draw, number):
    first = draw.choice((0, 0, 0, 0, 3, 6, 9))
    final = draw.choice((max(first - 1, 0), first + 3, 12, 12, 12, 12, 12))
    return paper(number, first, final, draw_grounds(draw, number))


def draw_days(seed):
    """What is told, day by day: a list of pairs, a day and the calls of that day."""
    draw = random.Random(seed)
    days = [(k, []) for k in (0, 2, 5, 7)]
    for number in draw.sample(range(1, 10), 9):
        days[draw.choice((0, 0, 0, 1, 2, 3))][1].append(draw_paper(draw, number))
    for number in range(1, draw.randint(1, 5)):
        heard = draw.randint(0, 3)
        days[heard][1].append(revoke(number, draw.randint(1, 10), draw.choice(DAYS)))
        if draw.randint(0, 1):
            days[draw.randint(heard, 3)][1].append(back(number))
    return days


def calls_of(days):
    calls = []
    for k, told in days:
        calls += [day(k)] + told
    return calls


def asks(kind, k):
    return [kind(of, d, k) for of in range(1, 11) for d in DAYS]


def told_and_asked(told, asked):
    """At most a hundred calls go into one line, so what is asked is asked in parts."""
    given = []
    room = 100 - len(told)
    for place in range(0, len(asked), room):
        given += run(*told, *asked[place:place + room])[len(told):]
    return given


class DrawnHouses(unittest.TestCase):
    def test_answers_are_those_of_the_words(self):
        for seed in SEEDS:
            told = calls_of(draw_days(seed))
            for k in (0, 2, 4, 5, 7):
                model = Model(told, k)
                pairs = [(of, d) for of in range(1, 11) for d in DAYS]
                given = told_and_asked(told, asks(stands, k))
                self.assertEqual(given, [[0, int(model.rank(*pair) is not None)] for pair in pairs], (seed, k))
                given = told_and_asked(told, asks(why, k))
                self.assertEqual(given, [model.why(*pair) for pair in pairs], (seed, k))
                given = told_and_asked(told, asks(proof, k))
                self.assertEqual(given, [model.proof(*pair) for pair in pairs], (seed, k))

    def test_both_answers_are_drawn_often(self):
        given = [row for seed in SEEDS for row in told_and_asked(calls_of(draw_days(seed)), asks(proof, 7))]
        up = [row for row in given if row[1] == 1]
        self.assertGreater(len(up), len(given) // 10)
        self.assertLess(len(up), len(given) // 2)
        self.assertGreater(len([row for row in up if len(row) > 2 + 3 * 3]), 100)
        self.assertGreater(len([row for row in given if row[1] == 0 and len(row) > 2 + 2 * 3]), 100)


class PromiseOne(unittest.TestCase):
    def test_what_stands_has_a_right_row_and_what_does_not_a_right_set(self):
        for seed in SEEDS:
            told = calls_of(draw_days(seed))
            proofs = told_and_asked(told, asks(proof, 7))
            checks = []
            for call, given in zip(asks(proof, 7), proofs):
                checks.append((tree if given[1] == 1 else shut)(call[1], call[2], 7, given[2:]))
            self.assertEqual(told_and_asked(told, checks), [[0, 1]] * len(checks), seed)

    def test_nothing_has_both(self):
        for seed in SEEDS:
            draw = random.Random(seed)
            told = calls_of(draw_days(seed))
            ups = told_and_asked(told, asks(stands, 7))
            checks, wanted = [], []
            for call, up in zip(asks(stands, 7), ups):
                of, d = call[1], call[2]
                steps, members = self.any_steps(draw, of, d), self.any_members(draw, of, d)
                checks += [tree(of, d, 7, steps), shut(of, d, 7, members)]
                wanted += [up[1], 1 - up[1]]
            for given, most in zip(told_and_asked(told, checks), wanted):
                self.assertLessEqual(given[1], most, seed)

    def any_steps(self, draw, of, d):
        row = [n for _ in range(draw.randint(0, 3)) for n in (draw.randint(1, 10), draw.choice(DAYS), draw.randint(1, 2))]
        return row + [of, d, draw.randint(1, 3)]

    def any_members(self, draw, of, d):
        return [of, d] + [n for _ in range(draw.randint(0, 5)) for n in (draw.randint(1, 10), draw.choice(DAYS))]


class PromiseTwo(unittest.TestCase):
    def test_what_is_heard_later_changes_no_answer(self):
        for seed in SEEDS:
            days = draw_days(seed)
            for many in (1, 2, 3):
                k = days[many - 1][0]
                for kind in (stands, why, proof):
                    before = told_and_asked(calls_of(days[:many]), asks(kind, k))
                    self.assertEqual(told_and_asked(calls_of(days), asks(kind, k)), before, (seed, k))

    def test_what_is_heard_later_makes_no_row_or_set_right_or_wrong(self):
        for seed in SEEDS[:50]:
            days = draw_days(seed)
            checks = []
            for call, given in zip(asks(proof, 2), told_and_asked(calls_of(days), asks(proof, 7))):
                checks.append((tree if given[1] == 1 else shut)(call[1], call[2], 2, given[2:]))
            before = told_and_asked(calls_of(days[:2]), checks)
            self.assertEqual(told_and_asked(calls_of(days), checks), before, seed)

    def test_within_one_day_the_order_does_not_matter(self):
        for seed in SEEDS:
            days = draw_days(seed)
            mixed = [(k, self.mixed(random.Random(seed), told)) for k, told in days]
            for k in (0, 2, 5, 7):
                for kind in (stands, proof):
                    plain = told_and_asked(calls_of(days), asks(kind, k))
                    self.assertEqual(told_and_asked(calls_of(mixed), asks(kind, k)), plain, (seed, k))

    def mixed(self, draw, told):
        """In any order, but that what is taken back has to be told before."""
        row = draw.sample(told, len(told))
        return [call for call in row if call[0] != 3] + [call for call in row if call[0] == 3]


class PromiseThree(unittest.TestCase):
    def test_a_revocation_brings_nothing_up(self):
        for seed in SEEDS:
            told = calls_of(draw_days(seed))
            without = told_and_asked(told, asks(stands, 7))
            for of in (1, 4, 7):
                after = told_and_asked(told + [revoke(9, of, 6)], asks(stands, 7))
                self.assertTrue(all(new[1] <= old[1] for new, old in zip(after, without)), seed)

    def test_taken_back_it_is_as_if_it_had_not_been(self):
        for seed in SEEDS:
            told = calls_of(draw_days(seed))
            for kind in (stands, why, proof):
                without = told_and_asked(told + [day(20)], asks(kind, 20))
                after = told + [revoke(9, 1 + seed % 9, 3), day(20), back(9)]
                self.assertEqual(told_and_asked(after, asks(kind, 20)), without, seed)
                early = told_and_asked(told + [revoke(9, 1 + seed % 9, 3)], asks(kind, 7))
                self.assertEqual(told_and_asked(after, asks(kind, 19)), early, seed)


if __name__ == "__main__":
    unittest.main()
