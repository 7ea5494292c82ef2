"""The calls day, paper, revoke and back: what they answer, what they refuse and in which order."""

import unittest

from tests.helper import FREE, HUGE, all_that_stand, back, behind, chain, day, decide, ground, last, moved, paper, proof
from tests.helper import pulled, review, revoke, run, sizes, spans, stands, told_of, why

NUMBERS_OUT = (0, 1000, -1, HUGE, -HUGE)
DAYS_OUT = (-1, 10000, HUGE, -HUGE)
FULL_OF_PAPERS = [paper(number) for number in range(1, 25)]
FULL_OF_REVOCATIONS = [revoke(number, 1) for number in range(1, 21)]


class Day(unittest.TestCase):
    def test_days_go_on(self):
        self.assertEqual(run(day(0), day(5), day(5), day(9999)), [[0]] * 4)

    def test_out_of_range(self):
        for k in DAYS_OUT:
            self.assertEqual(run(day(k), stands(1, 0, 0), stands(1, 0, 1)), [[-2], [0, 0], [-7]])

    def test_gone_by(self):
        self.assertEqual(run(day(5), day(4), stands(1, 0, 5)), [[0], [-5], [0, 0]])

    def test_out_of_range_is_looked_at_first(self):
        self.assertEqual(last(day(5), day(-1)), [-2])


class Paper(unittest.TestCase):
    def test_counts(self):
        self.assertEqual(run(paper(5), paper(999), paper(1)), [[0, 1], [0, 2], [0, 3]])

    def test_edges_of_numbers_and_days(self):
        self.assertEqual(run(paper(1, 0, 0), paper(999, 9999, 9999)), [[0, 1], [0, 2]])
        for number in NUMBERS_OUT:
            self.assertEqual(last(paper(number)), [-2])
        for d in DAYS_OUT:
            self.assertEqual(last(paper(1, d, 9999)), [-2])
            self.assertEqual(last(paper(1, 0, d)), [-2])

    def test_a_last_day_before_the_first_one(self):
        self.assertEqual(run(paper(1, 9, 8)), [[0, 1]])

    def test_grounds_as_told(self):
        four = ground((1, 0), (2, 0), (3, 1), (999, 1))
        for grounds in ([], [0], [0, 0, 0], four, four + four + four, ground((1, 0), (1, 1))):
            self.assertEqual(last(paper(7, 0, 9, grounds)), [0, 1], grounds)

    def test_grounds_not_as_told(self):
        five = ground((1, 0), (2, 0), (3, 0), (4, 0), (5, 0))
        wrong = (
            [0, 0, 0, 0], ground((1, 0)) * 4, five, ground((1, 0), (1, 0)), ground((2, 1), (3, 1), (2, 1)),
            [1], [1, 2], [2, 1, 0], [2, 1, 0, 3], [0, 1], [0, 1, 2], [1, 2, 0, 1], [4] + [1, 0] * 3,
            [-1], [0, -1], [5], [HUGE], [-HUGE], [1, HUGE, 0], [1, -HUGE, 0], [1, 1, HUGE], [1, 1, -HUGE],
            [1, 0, 0], [1, 1000, 0], [1, -1, 0], [1, 1, 2], [1, 1, -1],
        )
        for grounds in wrong:
            self.assertEqual(run(paper(7, 0, 9, grounds), why(7)), [[-9], [0, 1]], grounds)

    def test_like_rests_in_two_grounds_are_as_told(self):
        self.assertEqual(last(paper(7, 0, 9, ground((1, 0)) + ground((1, 0)))), [0, 1])

    def test_told_already(self):
        given = run(paper(7, 0, 9), paper(7, 20, 30), stands(7, 5), stands(7, 25), paper(8))
        self.assertEqual(given, [[0, 1], [-4], [0, 1], [0, 0], [0, 2]])

    def test_full(self):
        given = run(*FULL_OF_PAPERS, paper(25), why(25), stands(24))
        self.assertEqual(given[23:], [[0, 24], [-6], [0, 1], [0, 1]])

    def test_order_of_refusals(self):
        self.assertEqual(last(paper(0, 0, 9, [9])), [-2])
        self.assertEqual(last(paper(1, 0, 10000, [9])), [-2])
        self.assertEqual(last(paper(1), paper(1, 0, 9, [9])), [-9])
        self.assertEqual(last(*FULL_OF_PAPERS, paper(25, 0, 9, [9])), [-9])
        self.assertEqual(last(*FULL_OF_PAPERS, paper(24)), [-4])
        self.assertEqual(last(*FULL_OF_PAPERS, paper(1000)), [-2])

    def test_papers_and_revocations_are_numbered_apart(self):
        self.assertEqual(run(revoke(7, 7, 5), paper(7), stands(7, 4), stands(7, 5)), [[0, 1], [0, 1], [0, 1], [0, 0]])


class Revoke(unittest.TestCase):
    def test_counts_taken_back_ones_too(self):
        self.assertEqual(run(revoke(999, 999, 9999), back(999), revoke(1, 1, 0)), [[0, 1], [0], [0, 2]])

    def test_out_of_range(self):
        for number in NUMBERS_OUT:
            self.assertEqual(last(revoke(number, 1)), [-2])
            self.assertEqual(last(revoke(1, number)), [-2])
        for d in DAYS_OUT:
            self.assertEqual(run(revoke(1, 1, d), back(1)), [[-2], [-3]])

    def test_told_already(self):
        given = run(paper(1), revoke(1, 1, 50), revoke(1, 1, 20), stands(1, 30), back(1), revoke(1, 1, 20), stands(1, 60))
        self.assertEqual(given[2:], [[-4], [0, 1], [0], [-4], [0, 1]])

    def test_full(self):
        given = run(paper(2), *FULL_OF_REVOCATIONS, revoke(21, 2), stands(2), back(1), revoke(21, 2), back(21))
        self.assertEqual(given[20:], [[0, 20], [-6], [0, 1], [0], [-6], [-3]])

    def test_order_of_refusals(self):
        self.assertEqual(last(revoke(1, 1), revoke(1, 0)), [-2])
        self.assertEqual(last(*FULL_OF_REVOCATIONS, revoke(20, 1)), [-4])
        self.assertEqual(last(*FULL_OF_REVOCATIONS, revoke(21, 1, 10000)), [-2])

    def test_of_a_paper_that_is_not_known(self):
        given = run(revoke(1, 5, 20), why(5, 20), day(3), paper(5), why(5, 20, 3), stands(5, 19, 3), why(5, 20, 2))
        self.assertEqual(given, [[0, 1], [0, 1], [0], [0, 1], [0, 4, 1], [0, 1], [0, 1]])


class Back(unittest.TestCase):
    def test_out_of_range(self):
        for number in NUMBERS_OUT:
            self.assertEqual(last(back(number)), [-2])

    def test_none_such(self):
        self.assertEqual(run(back(1), back(999), paper(1), back(1)), [[-3], [-3], [0, 1], [-3]])

    def test_once_alone(self):
        given = run(paper(1), revoke(1, 1), day(3), back(1), day(5), back(1), stands(1, 0, 2), stands(1, 0, 3),
                    stands(1, 0, 4), stands(1, 0, 5))
        self.assertEqual(given[3:], [[0], [0], [-4], [0, 0], [0, 1], [0, 1], [0, 1]])

    def test_others_stay(self):
        given = run(paper(1), revoke(1, 1), revoke(2, 1, 9), back(1), stands(1, 8), stands(1, 9))
        self.assertEqual(given[3:], [[0], [0, 1], [0, 0]])


class DecidedToday(unittest.TestCase):
    told = [day(3), paper(1), revoke(1, 1, 50), decide(1, 10)]

    def test_nothing_more_is_heard_on_that_day(self):
        given = behind(self.told, paper(2), revoke(2, 1), back(1), sizes(), told_of(2), stands(1, 50, 3), stands(1, 0, 3))
        self.assertEqual(given, [[-5], [-5], [-5], [0, 3, 1, 1, 1], [-3], [0, 0], [0, 1]])

    def test_also_if_the_decision_is_that_it_does_not_stand(self):
        self.assertEqual(run(decide(7), paper(2), revoke(2, 1)), [[0, 1, 0], [-5], [-5]])

    def test_the_same_day_told_again_is_that_day(self):
        given = behind(self.told, day(3), paper(2), revoke(2, 1), back(1), day(3), decide(1), paper(2))
        self.assertEqual(given, [[0], [-5], [-5], [-5], [0], [0, 2, 1], [-5]])

    def test_a_day_that_is_refused_does_not_make_it_another_day(self):
        self.assertEqual(behind(self.told, day(2), day(10000), paper(2)), [[-5], [-2], [-5]])

    def test_on_a_later_day_it_is_heard(self):
        given = behind(self.told, day(4), paper(2), revoke(2, 1), back(1), stands(1, 50, 3), told_of(2), sizes())
        self.assertEqual(given, [[0], [0, 2], [0, 2], [0], [0, 0], [0, 0, 9999, 4, 0], [0, 4, 2, 2, 1]])

    def test_each_day_of_a_decision_and_no_other(self):
        given = behind(self.told, day(5), paper(2), decide(2), paper(3), day(6), paper(3), day(9), decide(3), back(1))
        self.assertEqual(given, [[0], [0, 2], [0, 2, 1], [-5], [0], [0, 3], [0], [0, 3, 1], [-5]])

    def test_a_decision_that_is_refused_is_none(self):
        self.assertEqual(run(decide(0), decide(1, 10000), paper(1), revoke(1, 1), back(1))[2:], [[0, 1], [0, 1], [0]])

    def test_out_of_range_comes_before_it(self):
        self.assertEqual(behind(self.told, paper(0), paper(2, 10000), paper(2, 0, -1), revoke(0, 1), revoke(2, 0),
                                revoke(2, 1, -1), back(0), back(1000)), [[-2]] * 8)

    def test_it_comes_before_the_list_and_before_what_is_told_or_is_not(self):
        given = behind(self.told, paper(2, 0, 9, [9]), paper(1), paper(1, 0, 9, [9]), revoke(1, 1), back(2))
        self.assertEqual(given, [[-5]] * 5)

    def test_it_comes_before_full_and_before_taken_back(self):
        told = FULL_OF_PAPERS + FULL_OF_REVOCATIONS + [back(1), decide(1)]
        self.assertEqual(behind(told, paper(25), revoke(21, 1), back(1)), [[-5]] * 3)
        self.assertEqual(behind(told, day(1), paper(25), revoke(21, 1), back(1)), [[0], [-6], [-6], [-4]])


class RefusalsChangeNothing(unittest.TestCase):
    def test_all_answers_stay(self):
        told = [paper(1, 0, 50, FREE), paper(2, 5, 60, [1, 1, 0]), day(4), revoke(1, 1, 20), revoke(2, 2, 50), back(2)]
        refused = [
            day(-1), day(10000), day(3), paper(0), paper(3, 0, 9, [1]), paper(1, 9, 9, []), revoke(3, 0), revoke(1, 2),
            back(0), back(3), back(2), stands(0), stands(1, 0, 5), why(1, -1), proof(1, 10000), proof(1, 0, 10000),
            all_that_stand(-1, 0), all_that_stand(0, 5), spans(0), spans(1, 5), pulled(0), pulled(1, 0, 5), pulled(2, 0, 4),
            chain(0, 1), chain(1, 1, 0, 5), chain(3, 1, 0, 4), moved(0, 5, 0), moved(0, 0, 10000), decide(0), decide(1, -1),
            told_of(0), told_of(3),
        ]
        asked = [call(of, d, k) for call in (stands, proof) for of in (1, 2, 3) for d in (0, 10, 30) for k in (3, 4)]
        asked += [review(), sizes(), pulled(1, 30, 4), paper(3), revoke(3, 1), sizes(), decide(1, 30), review(), sizes()]
        plain = run(*told, *asked)
        given = run(*told, *refused, *asked)
        self.assertEqual(len(given), len(told) + len(refused) + len(asked))
        self.assertTrue(all(len(row) == 1 and row[0] < 0 for row in given[6:6 + len(refused)]))
        self.assertEqual(given[6 + len(refused):], plain[6:])


if __name__ == "__main__":
    unittest.main()
