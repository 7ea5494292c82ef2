"""The promises, over many houses that are drawn with fixed seeds."""

import random
import unittest

from tests.helper import Model, all_that_stand, back, chain, day, decide, ground, moved, paper, proof, pulled, review
from tests.helper import revoke, run, shut, sizes, spans, stands, told_of, tree, why

SEEDS = range(150)
DAYS = (0, 3, 6, 9, 12)


def draw_rest(draw, number):
    """Mostly of a lesser number, so that rows of papers get long; at times of any, so that rings come."""
    most = 9 if draw.random() < 0.3 else max(number - 1, 1)
    return draw.randint(1, most), draw.randint(0, 1)


def draw_grounds(draw, number):
    if number < 3:
        return [0]
    row = []
    for _ in range(draw.choice((0, 1, 2, 2, 2, 3, 3, 3))):
        rests = {draw_rest(draw, number) for _ in range(draw.choice((0, 1, 1, 2, 2, 2, 2, 3, 3, 4, 4)))}
        row += ground(*draw.sample(sorted(rests), len(rests)))
    return row


def draw_paper(draw, number):
    first = draw.choice((0, 0, 0, 0, 3, 6, 9))
    final = draw.choice((max(first - 1, 0), first + 3, 12, 12, 12, 12, 12))
    return paper(number, first, final, draw_grounds(draw, number))


def draw_days(seed):
    """What is told, day by day: a list of pairs, a day and the calls of that day."""
    draw = random.Random(seed)
    days = [(k, []) for k in (0, 2, 5, 7)]
    for number in draw.sample(range(1, 10), 9):
        days[draw.choice((0, 0, 0, 1, 2, 3))][1].append(draw_paper(draw, number))
    for number in range(1, draw.randint(1, 5)):
        heard = draw.randint(0, 3)
        days[heard][1].append(revoke(number, draw.randint(1, 10), draw.choice(DAYS)))
        if draw.randint(0, 1):
            days[draw.randint(heard, 3)][1].append(back(number))
    return days


def draw_layered_grounds(draw, number):
    """Of lesser numbers alone, so that much stands, and much comes down when a low one is revoked."""
    row = []
    for _ in range(draw.randint(1, 3) if number > 2 else 0):
        low = max(1, number - 4)
        rests = {(draw.randint(low, number - 1), draw.randint(0, 1)) for _ in range(draw.randint(1, 4))}
        row += ground(*draw.sample(sorted(rests), len(rests)))
    return row or [0]


def draw_layered_days(seed):
    draw = random.Random(seed)
    days = [(k, []) for k in (0, 2, 5, 7)]
    for number in draw.sample(range(1, 10), 9):
        first = draw.choice((0, 0, 3, 6)) if number > 2 else 0
        final = draw.choice((6, 9, 12, 12, 12))
        days[draw.choice((0, 0, 0, 0, 1))][1].append(paper(number, first, final, draw_layered_grounds(draw, number)))
    for number in range(1, 5):
        heard = draw.randint(1, 3)
        days[heard][1].append(revoke(number, draw.choice((1, 2, 2, 3, 4, 5)), draw.choice((0, 3, 6, 9))))
        if draw.random() < 0.4:
            days[draw.randint(heard, 3)][1].append(back(number))
    return days


def draw_decided_days(seed):
    """The days of either draw, some with decisions behind what is told on them."""
    draw = random.Random(seed)
    days = []
    for k, told in (draw_layered_days if seed % 2 else draw_days)(seed):
        many = draw.choice((0, 2, 5))
        days.append((k, told + [decide(draw.randint(1, 10), draw.choice(DAYS)) for _ in range(many)]))
    return days


def calls_of(days):
    calls = []
    for k, told in days:
        calls += [day(k)] + told
    return calls


def asks(kind, k):
    return [kind(of, d, k) for of in range(1, 11) for d in DAYS]


def asks_of_many(k):
    """What is asked of no single paper on a day."""
    asked = [all_that_stand(d, k) for d in DAYS] + [spans(of, k) for of in range(1, 11)]
    asked += [pulled(revocation, d, k) for revocation in range(1, 5) for d in DAYS]
    return asked + [moved(d, k, m) for d in DAYS for m in (0, 2, 4, 5, 7) if m <= k]


def asks_of_ways(k):
    return [chain(revocation, of, d, k) for revocation in range(1, 5) for of in range(1, 11) for d in DAYS]


def told_and_asked(told, asked):
    """At most a hundred calls go into one line, so what is asked is asked in parts."""
    given = []
    room = 100 - len(told)
    for place in range(0, len(asked), room):
        given += run(*told, *asked[place:place + room])[len(told):]
    return given


class DrawnHouses(unittest.TestCase):
    def test_answers_are_those_of_the_words(self):
        for seed in SEEDS:
            told = calls_of(draw_days(seed))
            for k in (0, 2, 4, 5, 7):
                model = Model(told, k)
                pairs = [(of, d) for of in range(1, 11) for d in DAYS]
                given = told_and_asked(told, asks(stands, k))
                self.assertEqual(given, [[0, int(model.rank(*pair) is not None)] for pair in pairs], (seed, k))
                given = told_and_asked(told, asks(why, k))
                self.assertEqual(given, [model.why(*pair) for pair in pairs], (seed, k))
                given = told_and_asked(told, asks(proof, k))
                self.assertEqual(given, [model.proof(*pair) for pair in pairs], (seed, k))

    def test_surveys_are_those_of_the_words(self):
        for seed in SEEDS[:70]:
            told = calls_of(draw_days(seed))
            models = {k: Model(told, k) for k in (0, 2, 4, 5, 7)}
            for k, model in models.items():
                given = told_and_asked(told, [all_that_stand(d, k) for d in DAYS])
                self.assertEqual(given, [[0] + model.all(d) for d in DAYS], (seed, k))
                given = told_and_asked(told, [spans(of, k) for of in range(1, 11)])
                self.assertEqual(given, [[0] + model.spans(of, 13) for of in range(1, 11)], (seed, k))
                for m in models:
                    given = told_and_asked(told, [moved(d, k, m) for d in DAYS])
                    order = [call[1] for call in told if call[0] == 1]
                    wanted = [set(model.all(d)) ^ set(models[m].all(d)) for d in DAYS]
                    self.assertEqual(given, [[0] + [of for of in order if of in row] for row in wanted], (seed, k, m))

    def test_what_is_pulled_and_the_ways_are_those_of_the_words(self):
        for seed in SEEDS:
            told = calls_of(draw_layered_days(seed))
            for k in (2, 5, 7):
                model = Model(told, k)
                for number in range(1, 5):
                    given = told_and_asked(told, [pulled(number, d, k) for d in DAYS])
                    ways = told_and_asked(told, [chain(number, of, d, k) for of in range(1, 11) for d in DAYS])
                    if number not in model.revocations:
                        self.assertEqual(given + ways, [[-3]] * 55)
                    else:
                        self.assertEqual(given, [[0] + model.pulled(number, d) for d in DAYS], (seed, k))
                        wanted = [model.chain(number, of, d) for of in range(1, 11) for d in DAYS]
                        self.assertEqual(ways, wanted, (seed, k))

    def test_decisions_and_what_is_told_are_those_of_the_words(self):
        for seed in SEEDS:
            told = calls_of(draw_decided_days(seed)) + [day(8)]
            today, made = 0, []
            for call, given in zip(told, run(*told)):
                today = call[1] if call[0] == 0 else today
                if call[0] == 14:
                    made.append((today, call[1], call[2], Model(told, today).stands(*call[1:])))
                    self.assertEqual(given, [0, len(made), int(made[-1][3])])
            wanted = [0]
            for number, (then, of, d, stood) in enumerate(made, 1):
                other = [k for k in range(then + 1, 9) if Model(told, k).stands(of, d) != stood]
                if other:
                    wanted += [number, other[0], int(Model(told, 8).stands(of, d))]
            self.assertEqual(run(*told, review())[-1], wanted, seed)

    def test_ways_and_reviews_are_drawn_often(self):
        ways, reviews = [], []
        for seed in SEEDS:
            told = calls_of(draw_layered_days(seed))
            ways += [row for row in told_and_asked(told, asks_of_ways(7)) if row[:2] == [0, 1]]
            reviews.append(run(*calls_of(draw_decided_days(seed)), review())[-1])
        self.assertGreater(len(ways), 1000)
        self.assertGreater(len([row for row in ways if len(row) == 2 + 2 * 2]), 300)
        self.assertGreater(len([row for row in ways if len(row) > 2 + 2 * 2]), 100)
        self.assertGreater(len([row for row in reviews if len(row) > 1]), len(SEEDS) // 4)
        self.assertGreater(len([row for row in reviews if len(row) == 1]), len(SEEDS) // 10)

    def test_both_answers_are_drawn_often(self):
        given = [row for seed in SEEDS for row in told_and_asked(calls_of(draw_days(seed)), asks(proof, 7))]
        up = [row for row in given if row[1] == 1]
        self.assertGreater(len(up), len(given) // 10)
        self.assertLess(len(up), len(given) // 2)
        self.assertGreater(len([row for row in up if len(row) > 2 + 3 * 3]), 100)
        self.assertGreater(len([row for row in given if row[1] == 0 and len(row) > 2 + 2 * 3]), 100)


class PromiseOne(unittest.TestCase):
    def test_what_stands_has_a_right_row_and_what_does_not_a_right_set(self):
        for seed in SEEDS:
            told = calls_of(draw_days(seed))
            proofs = told_and_asked(told, asks(proof, 7))
            checks = []
            for call, given in zip(asks(proof, 7), proofs):
                checks.append((tree if given[1] == 1 else shut)(call[1], call[2], 7, given[2:]))
            self.assertEqual(told_and_asked(told, checks), [[0, 1]] * len(checks), seed)

    def test_nothing_has_both(self):
        for seed in SEEDS:
            draw = random.Random(seed)
            told = calls_of(draw_days(seed))
            ups = told_and_asked(told, asks(stands, 7))
            checks, wanted = [], []
            for call, up in zip(asks(stands, 7), ups):
                of, d = call[1], call[2]
                steps, members = self.any_steps(draw, of, d), self.any_members(draw, of, d)
                checks += [tree(of, d, 7, steps), shut(of, d, 7, members)]
                wanted += [up[1], 1 - up[1]]
            for given, most in zip(told_and_asked(told, checks), wanted):
                self.assertLessEqual(given[1], most, seed)

    def any_steps(self, draw, of, d):
        row = [n for _ in range(draw.randint(0, 3)) for n in (draw.randint(1, 10), draw.choice(DAYS), draw.randint(1, 2))]
        return row + [of, d, draw.randint(1, 3)]

    def any_members(self, draw, of, d):
        return [of, d] + [n for _ in range(draw.randint(0, 5)) for n in (draw.randint(1, 10), draw.choice(DAYS))]


class PromiseTwo(unittest.TestCase):
    def test_what_is_heard_later_changes_no_answer(self):
        for seed in SEEDS:
            days = draw_days(seed)
            for many in (1, 2, 3):
                k = days[many - 1][0]
                for kind in (stands, why, proof):
                    before = told_and_asked(calls_of(days[:many]), asks(kind, k))
                    self.assertEqual(told_and_asked(calls_of(days), asks(kind, k)), before, (seed, k))

    def test_what_is_heard_later_changes_no_survey_and_no_way(self):
        for seed in SEEDS[:70]:
            days = draw_layered_days(seed)
            for many in (1, 2, 3):
                k = days[many - 1][0]
                asked = asks_of_many(k) + asks_of_ways(k)
                before = told_and_asked(calls_of(days[:many]), asked)
                self.assertEqual(told_and_asked(calls_of(days), asked), before, (seed, k))

    def test_what_is_heard_later_makes_no_row_or_set_right_or_wrong(self):
        for seed in SEEDS[:50]:
            days = draw_days(seed)
            checks = []
            for call, given in zip(asks(proof, 2), told_and_asked(calls_of(days), asks(proof, 7))):
                checks.append((tree if given[1] == 1 else shut)(call[1], call[2], 2, given[2:]))
            before = told_and_asked(calls_of(days[:2]), checks)
            self.assertEqual(told_and_asked(calls_of(days), checks), before, seed)

    def test_within_one_day_the_order_does_not_matter(self):
        for seed in SEEDS:
            days = draw_days(seed)
            mixed = [(k, self.mixed(random.Random(seed), told)) for k, told in days]
            for k in (0, 2, 5, 7):
                for kind in (stands, proof):
                    plain = told_and_asked(calls_of(days), asks(kind, k))
                    self.assertEqual(told_and_asked(calls_of(mixed), asks(kind, k)), plain, (seed, k))

    def test_within_one_day_the_order_does_not_matter_to_surveys_ways_and_reviews(self):
        """But papers are named in the order of telling, so those of a survey are put in one order first."""
        for seed in SEEDS[:70]:
            days = draw_layered_days(seed)
            mixed = [(k, self.mixed(random.Random(seed), told)) for k, told in days]
            for k in (2, 7):
                plain = told_and_asked(calls_of(days), asks_of_many(k))
                given = told_and_asked(calls_of(mixed), asks_of_many(k))
                self.assertEqual([sorted(row) for row in given], [sorted(row) for row in plain], (seed, k))
                asked = asks_of_ways(k) + [spans(of, k) for of in range(1, 11)]
                plain = told_and_asked(calls_of(days), asked)
                self.assertEqual(told_and_asked(calls_of(mixed), asked), plain, (seed, k))
            decided = draw_decided_days(seed)
            mixed = [(k, self.mixed(random.Random(seed), told)) for k, told in decided]
            self.assertEqual(run(*calls_of(mixed), review())[-1], run(*calls_of(decided), review())[-1], seed)

    def mixed(self, draw, told):
        """In any order, but that what is taken back has to be told before, and that decisions end the hearing."""
        row = draw.sample(told, len(told))
        heard = [call for call in row if call[0] in (1, 2)] + [call for call in row if call[0] == 3]
        return heard + [call for call in told if call[0] == 14]


class PromiseThree(unittest.TestCase):
    def test_a_revocation_brings_nothing_up(self):
        for seed in SEEDS:
            told = calls_of(draw_days(seed))
            without = told_and_asked(told, asks(stands, 7))
            for of in (1, 4, 7):
                after = told_and_asked(told + [revoke(9, of, 6)], asks(stands, 7))
                self.assertTrue(all(new[1] <= old[1] for new, old in zip(after, without)), seed)

    def test_a_revocation_adds_to_no_survey(self):
        for seed in SEEDS:
            told = calls_of(draw_layered_days(seed))
            asked = [all_that_stand(d, 7) for d in DAYS]
            without = told_and_asked(told, asked)
            after = told_and_asked(told + [revoke(9, 1 + seed % 5, 3)], asked)
            for new, old in zip(after, without):
                self.assertEqual(new, [of for of in old if of in new], seed)

    def test_taken_back_it_is_in_no_survey_and_no_way(self):
        for seed in SEEDS:
            told = calls_of(draw_layered_days(seed))
            asked = [call for call in asks_of_many(20) if call[0] != 13] + asks_of_ways(20)
            without = told_and_asked(told + [day(20)], asked)
            after = told + [revoke(9, 1 + seed % 5, 3), day(20), back(9)]
            self.assertEqual(told_and_asked(after, asked), without, seed)
            self.assertEqual(run(*after, *[moved(d, 20, 7) for d in DAYS])[len(after):],
                             [[0] + run(*after, pulled(9, d, 7))[-1][1:] for d in DAYS], seed)

    def test_taken_back_it_is_as_if_it_had_not_been(self):
        for seed in SEEDS:
            told = calls_of(draw_days(seed))
            for kind in (stands, why, proof):
                without = told_and_asked(told + [day(20)], asks(kind, 20))
                after = told + [revoke(9, 1 + seed % 9, 3), day(20), back(9)]
                self.assertEqual(told_and_asked(after, asks(kind, 20)), without, seed)
                early = told_and_asked(told + [revoke(9, 1 + seed % 9, 3)], asks(kind, 7))
                self.assertEqual(told_and_asked(after, asks(kind, 19)), early, seed)


class PromiseFour(unittest.TestCase):
    def test_each_that_is_pulled_has_a_way_and_no_other(self):
        for seed in SEEDS:
            told = calls_of(draw_layered_days(seed))
            for d in DAYS:
                for number in range(1, 5):
                    named = run(*told, pulled(number, d, 7))[-1]
                    ways = run(*told, *[chain(number, of, d, 7) for of in range(1, 11)])[len(told):]
                    if named == [-3]:
                        self.assertEqual(ways, [[-3]] * 10)
                    else:
                        with_way = [of for of in range(1, 11) if ways[of - 1][1] == 1]
                        self.assertEqual(with_way, sorted(named[1:]), seed)

    def test_a_way_leads_from_rest_to_rest_to_the_revoked_paper_on_a_day_from_which_it_is_revoked(self):
        for seed in SEEDS:
            told = calls_of(draw_layered_days(seed))
            model = Model(told, 7)
            for call, given in zip(asks_of_ways(7), told_and_asked(told, asks_of_ways(7))):
                if given[:2] == [0, 1]:
                    way = list(zip(given[2::2], given[3::2]))
                    self.assertEqual(way[0], (call[2], call[3]))
                    for pair, rest in zip(way, way[1:]):
                        self.assertIn(rest, [one for row in model.rests(*pair) for one in row])
                    for pair in way:
                        self.assertTrue(model.pulls(call[1], *pair))
                    of, since = model.revocations[call[1]]
                    self.assertEqual([n == of and d >= since for n, d in way], [False] * (len(way) - 1) + [True])

    def test_what_is_pulled_is_what_moved_by_the_revocation(self):
        for seed in SEEDS:
            told = calls_of(draw_layered_days(seed)) + [day(8), revoke(9, 1 + seed % 5, 3)]
            given = run(*told, *[pulled(9, d, 8) for d in DAYS], *[moved(d, 8, 7) for d in DAYS])[len(told):]
            self.assertEqual(given[:5], given[5:], seed)


class PromiseFive(unittest.TestCase):
    def test_told_again_just_if_stands_is_answered_otherwise(self):
        for seed in SEEDS:
            told = calls_of(draw_decided_days(seed)) + [day(8)]
            today, wanted, number = 0, [0], 0
            for call, made in zip(told, run(*told)):
                today = call[1] if call[0] == 0 else today
                if call[0] == 14:
                    number += 1
                    later = run(*told, *[stands(call[1], call[2], k) for k in range(today + 1, 9)])[len(told):]
                    changed = [k for k, row in enumerate(later, today + 1) if row[1] != made[2]]
                    wanted += [number, changed[0], later[-1][1]] if changed else []
            self.assertEqual(run(*told, review())[-1], wanted, seed)

    def test_without_anything_heard_since_nothing_is_told_again(self):
        for seed in SEEDS:
            told = calls_of(draw_layered_days(seed)) + [decide(1 + seed % 10, d) for d in DAYS]
            given = run(*told, review(), day(30), review(), day(9999), review())[len(told):]
            self.assertEqual(given, [[0]] * 5)


class NothingIsChangedByAsking(unittest.TestCase):
    def asked(self, k, draw):
        """One of each of the calls 4 to 13 and 15 to 17."""
        of, d = draw.randint(1, 10), draw.choice(DAYS)
        return [stands(of, d, k), why(of, d, k), proof(of, d, k), tree(of, d, k, [of, d, 1]), shut(of, d, k, [of, d]),
                all_that_stand(d, k), spans(of, k), pulled(1 + of % 4, d, k), chain(1 + of % 4, of, d, k), moved(d, k, 0),
                review(), told_of(of), sizes()]

    def test_the_answers_are_the_same_with_and_without(self):
        for seed in SEEDS:
            draw = random.Random(seed)
            plain = calls_of(draw_decided_days(seed))
            places = draw.sample(range(len(plain)), 2)
            plain += self.asked(7, draw)
            calls, kept, today = [], [], 0
            for place, call in enumerate(plain):
                today = call[1] if call[0] == 0 else today
                kept.append(len(calls))
                calls.append(call)
                if place in places:
                    calls += self.asked(today, draw)
            self.assertLessEqual(len(calls), 100)
            given = run(*calls)
            self.assertEqual([given[place] for place in kept], run(*plain), seed)


if __name__ == "__main__":
    unittest.main()
