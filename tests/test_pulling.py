"""The calls pulled and chain."""

import unittest

from tests.helper import FREE, HUGE, back, behind, chain, day, ground, paper, pulled, revoke, run, stands

NUMBERS_OUT = (0, 1000, -1, HUGE, -HUGE)
DAYS_OUT = (-1, 10000, HUGE, -HUGE)
ON_ONE = ground((1, 0))


class Refusals(unittest.TestCase):
    told = [paper(1), paper(2, 0, 50, ON_ONE), day(4), revoke(1, 1, 10), day(7), back(1), day(9)]

    def test_out_of_range(self):
        told = [paper(1), revoke(1, 1)]
        for out in NUMBERS_OUT:
            self.assertEqual(behind(told, pulled(out), chain(out, 1), chain(1, out)), [[-2]] * 3, out)
        for out in DAYS_OUT:
            asked = [pulled(1, out), pulled(1, 0, out), chain(1, 1, out), chain(1, 1, 0, out)]
            self.assertEqual(behind(told, *asked), [[-2]] * 4, out)

    def test_not_yet(self):
        told = [paper(1), revoke(1, 1), day(5)]
        asked = [pulled(1, 0, 6), chain(1, 1, 0, 6), pulled(1, 0, 9999), chain(1, 1, 0, 9999)]
        self.assertEqual(behind(told, *asked), [[-7]] * 4)
        self.assertEqual(behind(told, pulled(1, 0, 5), chain(1, 1, 0, 5)), [[0, 1], [0, 1, 1, 0]])
        self.assertEqual(behind(told, pulled(1, 0, 4), chain(1, 1, 0, 4)), [[0, 1], [0, 1, 1, 0]])

    def test_none_such(self):
        self.assertEqual(run(pulled(1), chain(1, 1), pulled(999), chain(999, 999)), [[-3]] * 4)
        self.assertEqual(behind([paper(1), revoke(2, 1)], pulled(1), chain(1, 2)), [[-3]] * 2)

    def test_one_that_is_not_known_yet_at_k(self):
        self.assertEqual(behind(self.told, pulled(1, 10, 3), chain(1, 2, 10, 3)), [[-3]] * 2)

    def test_one_that_is_known_at_k(self):
        for k in (4, 6):
            given = behind(self.told, pulled(1, 10, k), chain(1, 2, 10, k))
            self.assertEqual(given, [[0, 1, 2], [0, 1, 2, 10, 1, 10]], k)

    def test_one_that_is_taken_back_by_k(self):
        for k in (7, 8, 9):
            self.assertEqual(behind(self.told, pulled(1, 10, k), chain(1, 2, 10, k)), [[-3]] * 2, k)

    def test_one_taken_back_on_the_day_of_hearing(self):
        told = [paper(1), day(4), revoke(1, 1), back(1), day(5)]
        self.assertEqual(behind(told, *[pulled(1, 0, k) for k in (3, 4, 5)], *[chain(1, 1, 0, k) for k in (3, 4, 5)]),
                         [[-3]] * 6)

    def test_out_of_range_is_looked_at_first(self):
        asked = [pulled(0, 0, 1), pulled(1, 10000, 1), pulled(0, 0, 0), pulled(1, -1, 0), chain(0, 1, 0, 1),
                 chain(0, 1, 0, 0), chain(1, 0, 0, 1), chain(1, 0, 0, 0), chain(1, 1, 10000, 1), chain(1, 1, -1, 0)]
        self.assertEqual(run(*asked), [[-2]] * 10)

    def test_not_yet_is_looked_at_before_none_such(self):
        self.assertEqual(run(pulled(1, 0, 1), chain(1, 1, 0, 1)), [[-7]] * 2)

    def test_none_such_is_looked_at_also_if_the_paper_is_not_known(self):
        self.assertEqual(run(paper(1), chain(1, 5))[1], [-3])

    def test_edges(self):
        told = [paper(999), revoke(999, 999, 9999), day(9999)]
        for k in (0, 9999):
            given = behind(told, pulled(999, 9999, k), chain(999, 999, 9999, k), pulled(999, 0, k), chain(999, 1, 0, k))
            self.assertEqual(given, [[0, 999], [0, 1, 999, 9999], [0], [0, 0]], k)


class Pulled(unittest.TestCase):
    def pulled(self, told, revocation=1, d=20, k=0):
        given = behind(told, pulled(revocation, d, k))[0]
        self.assertEqual(given[0], 0)
        return given[1:]

    def test_the_revoked_paper_from_the_day_on(self):
        told = [paper(1, 5, 30), revoke(1, 1, 20)]
        self.assertEqual([self.pulled(told, 1, d) for d in (4, 5, 19, 20, 30, 31)], [[], [], [], [1], [1], []])

    def test_a_paper_that_is_not_known(self):
        told = [paper(2, 0, 50, ON_ONE), revoke(1, 1, 5), day(3), paper(1)]
        self.assertEqual([self.pulled(told, 1, 20, k) for k in (0, 2, 3)], [[], [], [2, 1]])

    def test_what_rests_on_it_on_the_day_asked_for(self):
        told = [paper(3, 0, 50, ground((2, 0))), paper(2, 0, 50, ON_ONE), paper(1), paper(4), revoke(1, 1, 20)]
        self.assertEqual([self.pulled(told, 1, d) for d in (19, 20)], [[], [3, 2, 1]])

    def test_what_rests_on_it_on_its_own_first_day(self):
        told = [paper(1, 0, 30), paper(2, 20, 50, ground((1, 1))), paper(3, 19, 50, ground((1, 1))), revoke(1, 1, 20)]
        self.assertEqual([self.pulled(told, 1, d) for d in (19, 20, 40, 51)], [[], [1, 2], [2], []])

    def test_a_paper_with_another_ground_that_holds(self):
        told = [paper(1), paper(2), paper(3, 0, 50, ON_ONE + ground((2, 0))), paper(4, 0, 50, ON_ONE + FREE),
                paper(5, 0, 50, ground((3, 0), (1, 0))), revoke(1, 1, 5)]
        self.assertEqual(self.pulled(told), [1, 5])

    def test_a_paper_that_does_not_stand_anyway(self):
        told = [paper(1), paper(2, 0, 9, ON_ONE), paper(3, 0, 50, ground((1, 0), (7, 0))), paper(4, 0, 50, []),
                revoke(1, 1, 5)]
        self.assertEqual(self.pulled(told), [1])

    def test_a_revoked_paper_that_does_not_stand_anyway(self):
        told = [paper(1, 0, 50, []), paper(2, 0, 50, ON_ONE), revoke(1, 1, 5)]
        self.assertEqual(self.pulled(told), [])

    def test_two_revocations_of_one_paper(self):
        told = [paper(1), paper(2, 0, 50, ON_ONE), revoke(1, 1, 10), revoke(2, 1, 20)]
        self.assertEqual([self.pulled(told, 1, d) for d in (9, 10, 19, 20)], [[], [1, 2], [1, 2], []])
        self.assertEqual([self.pulled(told, 2, d) for d in (9, 10, 19, 20)], [[], [], [], []])

    def test_one_of_two_taken_back(self):
        told = [paper(1), revoke(1, 1, 10), revoke(2, 1, 10), day(4), back(1)]
        self.assertEqual([self.pulled(told, 2, 20, k) for k in (3, 4)], [[], [1]])

    def test_another_revocation_has_pulled_it_down_already(self):
        told = [paper(1), paper(2), paper(3, 0, 50, ground((1, 0), (2, 0))), revoke(1, 1, 5), revoke(2, 2, 5)]
        self.assertEqual([self.pulled(told, 1), self.pulled(told, 2)], [[1], [2]])

    def test_two_revocations_that_hold_together_alone(self):
        told = [paper(1), paper(2), paper(3, 0, 50, ON_ONE + ground((2, 0))), revoke(1, 1, 5), revoke(2, 2, 5)]
        self.assertEqual([self.pulled(told, 1), self.pulled(told, 2)], [[1, 3], [2, 3]])

    def test_a_ring_behind_the_revoked_one(self):
        told = [paper(1), paper(2, 0, 50, ON_ONE + ground((3, 0))), paper(3, 0, 50, ground((2, 0))), revoke(1, 1, 5)]
        self.assertEqual(self.pulled(told), [1, 2, 3])

    def test_the_order_of_telling(self):
        told = [paper(40, 0, 50, ON_ONE), paper(7, 0, 50, ground((30, 0))), paper(1), paper(30, 0, 50, ON_ONE),
                revoke(1, 1, 5)]
        self.assertEqual(self.pulled(told), [40, 7, 1, 30])

    def test_heard_behind_k(self):
        told = [paper(1), revoke(1, 1, 5), day(3), paper(2, 0, 50, ON_ONE), day(6), paper(3), day(7)]
        self.assertEqual([self.pulled(told, 1, 20, k) for k in (2, 3, 7)], [[1], [1, 2], [1, 2]])


class Chain(unittest.TestCase):
    def way(self, told, of, d=70, revocation=1, k=0):
        given = behind(told, chain(revocation, of, d, k))[0]
        self.assertEqual(given[0], 0)
        return given[1:]

    def test_the_revoked_paper_itself(self):
        told = [paper(1, 5, 90), revoke(1, 1, 20)]
        self.assertEqual([self.way(told, 1, d) for d in (4, 19, 20, 90, 91)], [[0], [0], [1, 1, 20], [1, 1, 90], [0]])

    def test_what_is_not_pulled_down(self):
        told = [paper(1), paper(2), paper(3, 0, 90, ON_ONE + ground((2, 0))), paper(4, 0, 90, ground((1, 0), (8, 0))),
                revoke(1, 1, 20)]
        self.assertEqual([self.way(told, of) for of in (2, 3, 4, 5, 999)], [[0]] * 5)

    def test_of_a_paper_that_is_not_known(self):
        told = [paper(2, 0, 90, ON_ONE), revoke(1, 1, 20), day(3), paper(1)]
        self.assertEqual([self.way(told, of, 70, 1, k) for k in (2, 3) for of in (1, 2)],
                         [[0], [0], [1, 1, 70], [1, 2, 70, 1, 70]])

    def test_a_rest_at_a_time(self):
        told = [paper(1), paper(2, 0, 90, ON_ONE), paper(3, 0, 90, ground((2, 0))), paper(4, 0, 90, ground((3, 0))),
                revoke(1, 1, 20)]
        self.assertEqual(self.way(told, 4), [1, 4, 70, 3, 70, 2, 70, 1, 70])

    def test_through_rests_with_1(self):
        told = [paper(1, 0, 45), paper(2, 30, 65, ground((1, 1))), paper(3, 60, 90, ground((2, 1))), revoke(1, 1, 30)]
        self.assertEqual(self.way(told, 3), [1, 3, 70, 2, 60, 1, 30])
        self.assertEqual(self.way(told[:3] + [revoke(1, 1, 31)], 3), [0])

    def test_through_rests_with_0_and_with_1(self):
        told = [paper(1), paper(2, 30, 80, ground((1, 1))), paper(3, 10, 90, ground((2, 0))), revoke(1, 1, 30)]
        self.assertEqual(self.way(told, 3), [1, 3, 70, 2, 70, 1, 30])

    def test_a_rest_that_holds_is_passed_by(self):
        told = [paper(1), paper(2), paper(3, 0, 90, ground((2, 0), (1, 0))), revoke(1, 1, 20)]
        self.assertEqual(self.way(told, 3), [1, 3, 70, 1, 70])

    def test_a_rest_that_does_not_stand_anyway_is_passed_by(self):
        told = [paper(1), paper(2, 0, 90, ON_ONE), paper(4, 0, 9, ON_ONE),
                paper(3, 0, 90, ground((8, 0), (4, 0)) + ground((2, 0))), revoke(1, 1, 20)]
        self.assertEqual(self.way(told, 3), [1, 3, 70, 2, 70, 1, 70])

    def test_the_revoked_paper_on_a_day_on_which_it_does_not_stand_anyway_is_passed_by(self):
        told = [paper(1, 0, 60), paper(3, 20, 90, ground((1, 0)) + ground((1, 1))), revoke(1, 1, 15)]
        self.assertEqual(self.way(told, 3), [1, 3, 70, 1, 20])
        self.assertEqual(self.way(told, 3, 60), [1, 3, 60, 1, 60])

    def test_the_revoked_paper_on_a_day_from_which_it_is_not_revoked_is_passed_by(self):
        told = [paper(1), paper(3, 20, 90, ground((1, 1), (1, 0))), revoke(1, 1, 21)]
        self.assertEqual(self.way(told, 3), [1, 3, 70, 1, 70])
        self.assertEqual(self.way(told[:2] + [revoke(1, 1, 20)], 3), [1, 3, 70, 1, 20])

    def test_as_few_steps_as_can_be(self):
        told = [paper(1), paper(2, 0, 90, ON_ONE), paper(3, 0, 90, ground((2, 0)) + ON_ONE),
                paper(4, 0, 90, ground((2, 0), (3, 0), (1, 0))), revoke(1, 1, 20)]
        self.assertEqual(self.way(told, 3), [1, 3, 70, 1, 70])
        self.assertEqual(self.way(told, 4), [1, 4, 70, 1, 70])

    def test_a_ground_that_is_not_that_of_the_proof(self):
        told = [paper(1), paper(2, 0, 90, ON_ONE), paper(3, 0, 90, ON_ONE), paper(5, 0, 90, ground((3, 0))),
                paper(4, 0, 90, ground((5, 0)) + ground((2, 0))), revoke(1, 1, 20)]
        self.assertEqual(self.way(told, 4), [1, 4, 70, 2, 70, 1, 70])

    def test_also_through_a_ground_that_would_not_hold_it_up(self):
        told = [paper(1), paper(2, 0, 90, ON_ONE), paper(3, 0, 90, ground((2, 0)) + ground((1, 0), (8, 0))),
                revoke(1, 1, 20)]
        self.assertEqual(self.way(told, 3), [1, 3, 70, 1, 70])

    def test_of_several_shortest_ways_the_first_one_found(self):
        told = [paper(1), paper(2, 0, 90, ON_ONE), paper(3, 0, 90, ON_ONE), paper(4, 0, 90, ground((3, 0), (2, 0))),
                paper(5, 0, 90, ground((2, 0)) + ground((3, 0))), revoke(1, 1, 20)]
        self.assertEqual(self.way(told, 4), [1, 4, 70, 3, 70, 1, 70])
        self.assertEqual(self.way(told, 5), [1, 5, 70, 2, 70, 1, 70])

    def test_the_first_one_found_is_by_the_order_of_the_ways_before(self):
        told = [paper(1), paper(2, 0, 90, ON_ONE), paper(3, 0, 90, ON_ONE), paper(4, 0, 90, ground((2, 0))),
                paper(5, 0, 90, ground((3, 0), (2, 0))), paper(6, 0, 90, ground((5, 0)) + ground((4, 0))),
                paper(7, 0, 90, ground((4, 0)) + ground((5, 0))), revoke(1, 1, 20)]
        self.assertEqual(self.way(told, 6), [1, 6, 70, 5, 70, 3, 70, 1, 70])
        self.assertEqual(self.way(told, 7), [1, 7, 70, 4, 70, 2, 70, 1, 70])

    def test_the_revoked_paper_on_two_days_the_first_one_found(self):
        told = [paper(1), paper(3, 30, 90, ground((1, 1), (1, 0))), paper(4, 30, 90, ground((1, 0), (1, 1))),
                revoke(1, 1, 20)]
        self.assertEqual([self.way(told, 3), self.way(told, 4)], [[1, 3, 70, 1, 30], [1, 4, 70, 1, 70]])

    def test_what_some_way_has_come_to_before_is_left_out(self):
        told = [paper(1), paper(2, 0, 90, ON_ONE + ground((3, 0))), paper(3, 0, 90, ground((2, 0))),
                paper(4, 0, 90, ground((3, 0))), revoke(1, 1, 20)]
        self.assertEqual(self.way(told, 4), [1, 4, 70, 3, 70, 2, 70, 1, 70])
        self.assertEqual(self.way(told, 3), [1, 3, 70, 2, 70, 1, 70])

    def test_two_revocations_of_one_paper(self):
        told = [paper(1), paper(2, 0, 90, ON_ONE), revoke(1, 1, 20), revoke(2, 1, 50), day(4), back(2)]
        self.assertEqual([self.way(told, 2, 70, 1, 3), self.way(told, 2, 70, 2, 3)], [[0], [0]])
        self.assertEqual([self.way(told, 2, 40, 1, 3), self.way(told, 2, 40, 2, 3)], [[1, 2, 40, 1, 40], [0]])
        self.assertEqual(self.way(told, 2, 70, 1, 4), [1, 2, 70, 1, 70])

    def test_a_way_that_another_revocation_has_shut(self):
        told = [paper(1), paper(2, 0, 90, ON_ONE), paper(3, 0, 90, ON_ONE), paper(4, 0, 90, ground((2, 0)) + ground((3, 0))),
                revoke(1, 1, 20), revoke(2, 2, 20)]
        self.assertEqual(self.way(told, 4), [1, 4, 70, 3, 70, 1, 70])

    def test_as_many_papers_as_there_can_be(self):
        told = [paper(1)] + [paper(of, of, 9999, ground((of - 1, 1))) for of in range(2, 25)] + [revoke(1, 1, 0)]
        wanted = [1, 24, 500]
        for of in range(23, 0, -1):
            wanted += [of, of + 1]
        self.assertEqual(self.way(told, 24, 500), wanted)


class PromiseFour(unittest.TestCase):
    """Cases by hand; houses that are drawn are in test_promises."""

    def test_each_that_is_pulled_has_a_way_and_no_other(self):
        told = [paper(1, 0, 60), paper(2, 10, 80, ground((1, 1)) + ground((3, 0))), paper(3, 0, 50), paper(4, 0, 90, FREE),
                paper(5, 40, 90, ground((2, 0), (4, 0)) + ground((6, 1))), paper(6, 0, 90, ground((5, 0))),
                revoke(1, 1, 5), revoke(2, 3, 45), revoke(3, 9, 0)]
        seen = 0
        for revocation in (1, 2, 3):
            for d in (4, 5, 10, 40, 45, 50, 51, 60, 61, 80, 90):
                named = behind(told, pulled(revocation, d))[0][1:]
                ways = behind(told, *[chain(revocation, of, d) for of in range(1, 10)])
                self.assertEqual([of for of in range(1, 10) if ways[of - 1][1] == 1], named)
                self.assertTrue(all(way == [0, 0] for of, way in enumerate(ways, 1) if of not in named))
                given = behind(told, *[stands(of, d) for of in named])
                self.assertTrue(all(row == [0, 0] for row in given))
                seen += len(named)
        self.assertGreater(seen, 10)


if __name__ == "__main__":
    unittest.main()
