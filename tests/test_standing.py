"""The calls stands and why, and what all asked calls refuse."""

import unittest

from tests.helper import FREE, HUGE, back, day, ground, paper, proof, revoke, run, shut, stands, tree, why


def standing(told, *asked):
    return [row[1] for row in run(*told, *asked)[len(told):]]


class Asked(unittest.TestCase):
    def calls(self, of, d, k):
        return [stands(of, d, k), why(of, d, k), proof(of, d, k), tree(of, d, k, []), shut(of, d, k, [])]

    def test_out_of_range(self):
        wrong = [(of, 0, 0) for of in (0, 1000, -1, HUGE, -HUGE)]
        wrong += [(1, d, 0) for d in (-1, 10000, HUGE, -HUGE)]
        wrong += [(1, 0, k) for k in (-1, 10000, HUGE, -HUGE)]
        for of, d, k in wrong:
            self.assertEqual(run(*self.calls(of, d, k)), [[-2]] * 5, (of, d, k))

    def test_not_yet(self):
        self.assertEqual(run(day(5), *self.calls(1, 0, 6)), [[0]] + [[-7]] * 5)
        self.assertEqual(run(*self.calls(1, 0, 9999)), [[-7]] * 5)

    def test_edges(self):
        given = run(day(9999), *self.calls(999, 9999, 9999), *self.calls(1, 0, 0), *self.calls(1, 9999, 9998))
        self.assertTrue(all(row[0] == 0 for row in given))

    def test_out_of_range_is_looked_at_before_not_yet(self):
        for of, d in ((0, 0), (1, 10000)):
            self.assertEqual(run(*self.calls(of, d, 5)), [[-2]] * 5)

    def test_not_yet_is_looked_at_before_the_list(self):
        given = run(tree(1, 0, 1, [1]), shut(1, 0, 1, [1]), tree(0, 0, 0, [1]), shut(0, 0, 0, [1]))
        self.assertEqual(given, [[-7], [-7], [-2], [-2]])

    def test_the_day_asked_for_may_be_behind_today(self):
        self.assertEqual(standing([paper(1)], stands(1, 9999, 0)), [1])


class Stands(unittest.TestCase):
    def test_from_its_first_to_its_last_day(self):
        self.assertEqual(standing([paper(1, 5, 7)], *[stands(1, d) for d in (4, 5, 6, 7, 8)]), [0, 1, 1, 1, 0])

    def test_one_day_alone(self):
        self.assertEqual(standing([paper(1, 5, 5)], *[stands(1, d) for d in (4, 5, 6)]), [0, 1, 0])

    def test_a_last_day_before_the_first_one(self):
        self.assertEqual(standing([paper(1, 7, 5)], *[stands(1, d) for d in (4, 5, 6, 7, 8)]), [0] * 5)

    def test_without_grounds_it_never_stands(self):
        self.assertEqual(standing([paper(1, 0, 9, [])], stands(1)), [0])

    def test_a_ground_without_rests_is_enough(self):
        self.assertEqual(standing([paper(1, 0, 9, ground((2, 0)) + [0])], stands(1)), [1])

    def test_all_rests_of_a_ground_are_needed(self):
        told = [paper(1), paper(2, 0, 9), paper(3, 0, 50, ground((1, 0), (2, 0)))]
        self.assertEqual(standing(told, stands(3, 9), stands(3, 10)), [1, 0])

    def test_one_ground_of_several_is_enough(self):
        told = [paper(1, 0, 9), paper(2, 20, 29), paper(3, 0, 50, ground((1, 0)) + ground((7, 0)) + ground((2, 0)))]
        asked = [stands(3, d) for d in (9, 10, 19, 20, 29, 30)]
        self.assertEqual(standing(told, *asked), [1, 0, 0, 1, 1, 0])

    def test_a_rest_with_0_on_the_day_asked_for(self):
        told = [paper(1, 10, 20), paper(2, 5, 30, ground((1, 0)))]
        self.assertEqual(standing(told, *[stands(2, d) for d in (9, 10, 20, 21)]), [0, 1, 1, 0])

    def test_a_rest_with_1_on_the_first_day_of_what_rests(self):
        told = [paper(1, 10, 20), paper(2, 20, 30, ground((1, 1))), paper(3, 21, 30, ground((1, 1)))]
        self.assertEqual(standing(told, stands(2, 30), stands(2, 20), stands(3, 30), stands(3, 21)), [1, 1, 0, 0])

    def test_a_rest_with_1_further_down_is_of_the_paper_that_rests(self):
        told = [paper(1, 0, 20), paper(2, 15, 60, ground((1, 1))), paper(3, 30, 90, ground((2, 1)))]
        self.assertEqual(standing(told, stands(3, 80), stands(2, 60), stands(1, 30)), [1, 1, 0])

    def test_papers_told_before_those_on_which_they_rest(self):
        told = [paper(3, 0, 9, ground((2, 0))), paper(2, 0, 9, ground((1, 0))), paper(1)]
        self.assertEqual(standing(told, stands(3), stands(2), stands(1)), [1, 1, 1])
        self.assertEqual(standing(told[:2], stands(3), stands(2)), [0, 0])

    def test_heard_later_it_stands_as_known_from_then(self):
        told = [paper(2, 0, 9, ground((1, 0))), day(4), paper(1), day(6)]
        self.assertEqual(standing(told, *[stands(2, 0, k) for k in (0, 3, 4, 5, 6)]), [0, 0, 1, 1, 1])

    def test_a_ring_does_not_hold_itself_up(self):
        ring = [paper(1, 0, 9, ground((2, 0))), paper(2, 0, 9, ground((3, 1))), paper(3, 0, 9, ground((1, 0)))]
        self.assertEqual(standing(ring, stands(1), stands(2), stands(3)), [0, 0, 0])
        self.assertEqual(standing([paper(4, 0, 9, ground((4, 0)))], stands(4)), [0])
        self.assertEqual(standing([paper(4, 0, 9, ground((4, 1)))], stands(4, 5)), [0])

    def test_a_ring_with_another_ground_stands(self):
        told = [paper(1, 0, 9, ground((2, 0)) + ground((4, 0))), paper(2, 0, 9, ground((3, 0))),
                paper(3, 0, 9, ground((1, 0))), paper(4, 0, 5)]
        asked = [stands(of, d) for of in (1, 2, 3) for d in (5, 6)]
        self.assertEqual(standing(told, *asked), [1, 0] * 3)

    def test_on_itself_on_its_first_day(self):
        told = [paper(1, 5, 9, ground((1, 1)) + ground((2, 0))), paper(2, 0, 5)]
        self.assertEqual(standing(told, *[stands(1, d) for d in (4, 5, 6, 9, 10)]), [0, 1, 1, 1, 0])

    def test_revoked_since_that_day_or_before(self):
        told = [paper(1), paper(2, 0, 50, ground((1, 0))), paper(3, 20, 50, ground((1, 1))), revoke(1, 1, 21)]
        asked = [stands(1, 20), stands(1, 21), stands(2, 20), stands(2, 21), stands(3, 20), stands(3, 50)]
        self.assertEqual(standing(told, *asked), [1, 0, 1, 0, 1, 1])

    def test_as_known_before_on_and_after_the_day_of_hearing(self):
        told = [paper(1), day(5), revoke(1, 1, 0), day(7)]
        self.assertEqual(standing(told, *[stands(1, 0, k) for k in (0, 4, 5, 6, 7)]), [1, 1, 0, 0, 0])

    def test_taken_back_as_known_before_on_and_after_that_day(self):
        told = [paper(1), day(5), revoke(1, 1, 0), day(8), back(1), day(10)]
        asked = [stands(1, 0, k) for k in (4, 5, 7, 8, 9, 10)]
        self.assertEqual(standing(told, *asked), [1, 0, 0, 1, 1, 1])

    def test_taken_back_on_the_day_of_hearing_it_is_never_known(self):
        told = [paper(1), day(5), revoke(1, 1, 0), back(1), day(6)]
        self.assertEqual(standing(told, *[stands(1, 0, k) for k in (4, 5, 6)]), [1, 1, 1])

    def test_a_long_row_of_papers(self):
        told = [paper(1)] + [paper(of, 0, 9999, ground((of - 1, 0))) for of in range(2, 25)]
        self.assertEqual(standing(told, stands(24, 9999)), [1])


class Why(unittest.TestCase):
    def test_it_stands(self):
        self.assertEqual(run(paper(1), why(1))[1], [0, 0])

    def test_not_known(self):
        given = run(why(1), day(5), paper(1, 3, 4, []), why(1, 0, 4), why(1, 0, 5))
        self.assertEqual([given[0], given[3], given[4]], [[0, 1], [0, 1], [0, 2]])

    def test_before_its_first_day_and_behind_its_last_one(self):
        given = run(paper(1, 5, 7), *[why(1, d) for d in (4, 5, 7, 8)])
        self.assertEqual(given[1:], [[0, 2], [0, 0], [0, 0], [0, 3]])

    def test_a_last_day_before_the_first_one(self):
        given = run(paper(1, 7, 5), *[why(1, d) for d in (4, 6, 7, 8)])
        self.assertEqual(given[1:], [[0, 2], [0, 2], [0, 3], [0, 3]])

    def test_the_days_are_looked_at_before_revocations(self):
        given = run(paper(1, 5, 7), revoke(1, 1, 0), *[why(1, d) for d in (4, 5, 8)])
        self.assertEqual(given[2:], [[0, 2], [0, 4, 1], [0, 3]])

    def test_revocations_are_looked_at_before_grounds(self):
        self.assertEqual(run(paper(1, 0, 9, []), revoke(6, 1, 5), why(1, 5), why(1, 4))[2:], [[0, 4, 6], [0, 5]])

    def test_the_first_revocation_as_told(self):
        told = [paper(1, 0, 99), revoke(9, 2, 0), revoke(8, 1, 30), revoke(3, 1, 20), revoke(5, 1, 10)]
        given = run(*told, *[why(1, d) for d in (9, 10, 20, 30, 99)])
        self.assertEqual(given[5:], [[0, 0], [0, 4, 5], [0, 4, 3], [0, 4, 8], [0, 4, 8]])

    def test_one_taken_back_is_not_told(self):
        told = [paper(1, 0, 99), revoke(8, 1, 30), revoke(3, 1, 20), day(5), back(8)]
        given = run(*told, why(1, 40, 4), why(1, 40, 5))
        self.assertEqual(given[5:], [[0, 4, 8], [0, 4, 3]])

    def test_no_ground_is_enough(self):
        given = run(paper(1, 0, 9, []), paper(2, 0, 9, ground((1, 0))), paper(3, 0, 9, ground((3, 0))),
                    paper(4, 0, 9, ground((9, 0)) + FREE), why(1), why(2), why(3), why(4))
        self.assertEqual(given[4:], [[0, 5], [0, 5], [0, 5], [0, 0]])


if __name__ == "__main__":
    unittest.main()
