"""The calls all_that_stand, spans and moved."""

import unittest

from tests.helper import FREE, HUGE, all_that_stand, back, behind, day, ground, moved, paper, revoke, run, spans, stands

NUMBERS_OUT = (0, 1000, -1, HUGE, -HUGE)
DAYS_OUT = (-1, 10000, HUGE, -HUGE)


class All(unittest.TestCase):
    def test_out_of_range(self):
        for out in DAYS_OUT:
            self.assertEqual(run(all_that_stand(out, 0), all_that_stand(0, out)), [[-2], [-2]], out)

    def test_not_yet(self):
        given = run(day(5), all_that_stand(0, 6), all_that_stand(0, 9999), all_that_stand(0, 5), all_that_stand(0, 4))
        self.assertEqual(given[1:], [[-7], [-7], [0], [0]])

    def test_out_of_range_is_looked_at_before_not_yet(self):
        self.assertEqual(run(all_that_stand(10000, 1), all_that_stand(-1, 9999)), [[-2], [-2]])

    def test_edges_of_days(self):
        told = [paper(1, 0, 0), paper(999, 9999, 9999), day(9999)]
        asked = [all_that_stand(d, k) for d in (0, 1, 9998, 9999) for k in (0, 9999)]
        self.assertEqual(behind(told, *asked), [[0, 1], [0, 1], [0], [0], [0], [0], [0, 999], [0, 999]])

    def test_nothing_is_told(self):
        self.assertEqual(run(all_that_stand()), [[0]])

    def test_the_order_of_telling(self):
        told = [paper(5), paper(900), paper(1, 3, 9), day(2), paper(7), paper(2), paper(30, 0, 9, []), paper(6)]
        self.assertEqual(behind(told, all_that_stand(3, 2), all_that_stand(0, 2)), [[0, 5, 900, 1, 7, 2, 6],
                                                                                   [0, 5, 900, 7, 2, 6]])

    def test_the_order_is_not_that_of_ranks(self):
        told = [paper(3, 0, 9, ground((2, 0))), paper(2, 0, 9, ground((1, 0))), paper(1)]
        self.assertEqual(behind(told, all_that_stand()), [[0, 3, 2, 1]])

    def test_a_ring_does_not_hold_itself_up(self):
        ring = [paper(1, 0, 9, ground((2, 0))), paper(2, 0, 9, ground((3, 1))), paper(3, 0, 9, ground((1, 0)))]
        self.assertEqual(behind(ring + [paper(4)], all_that_stand()), [[0, 4]])

    def test_a_ring_that_is_held_up_from_outside(self):
        ring = [paper(1, 0, 9, ground((2, 0))), paper(2, 0, 9, ground((1, 0)) + ground((4, 0)))]
        self.assertEqual(behind(ring + [paper(4, 3, 9)], all_that_stand(2), all_that_stand(3)), [[0], [0, 1, 2, 4]])

    def test_heard_behind_k(self):
        told = [paper(1, 0, 9, ground((2, 0))), day(4), paper(3), day(6), paper(2), day(8)]
        asked = [all_that_stand(0, k) for k in (0, 3, 4, 5, 6, 8)]
        self.assertEqual(behind(told, *asked), [[0], [0], [0, 3], [0, 3], [0, 1, 3, 2], [0, 1, 3, 2]])

    def test_revoked_and_taken_back(self):
        told = [paper(1), paper(2, 0, 50, ground((1, 0))), day(3), revoke(1, 1, 10), day(5), back(1)]
        asked = [all_that_stand(d, k) for k in (2, 3, 4, 5) for d in (9, 10)]
        self.assertEqual(behind(told, *asked), [[0, 1, 2], [0, 1, 2], [0, 1, 2], [0], [0, 1, 2], [0], [0, 1, 2], [0, 1, 2]])

    def test_rests_on_the_first_day(self):
        told = [paper(1, 0, 20), paper(2, 15, 60, ground((1, 1))), paper(3, 30, 90, ground((2, 1)))]
        self.assertEqual(behind(told, all_that_stand(20), all_that_stand(60), all_that_stand(90), all_that_stand(91)),
                         [[0, 1, 2], [0, 2, 3], [0, 3], [0]])

    def test_all_papers_that_there_can_be(self):
        told = [paper(number, 0, 99, FREE if number == 24 else ground((number + 1, 0))) for number in range(1, 25)]
        self.assertEqual(behind(told, all_that_stand(99)), [[0] + list(range(1, 25))])


class Spans(unittest.TestCase):
    def spans(self, told, of, k=0):
        given = behind(told, spans(of, k))[0]
        self.assertEqual(given[0], 0)
        return given[1:]

    def test_out_of_range(self):
        for out in NUMBERS_OUT:
            self.assertEqual(run(spans(out)), [[-2]], out)
        for out in DAYS_OUT:
            self.assertEqual(run(spans(1, out)), [[-2]], out)

    def test_not_yet(self):
        self.assertEqual(run(day(5), spans(1, 5), spans(1, 6), spans(1, 9999))[1:], [[0], [-7], [-7]])

    def test_out_of_range_is_looked_at_before_not_yet(self):
        self.assertEqual(run(spans(0, 1), spans(1000, 9999)), [[-2], [-2]])

    def test_a_paper_that_is_not_known(self):
        told = [paper(2), revoke(1, 1, 5), day(3), paper(1, 2, 9)]
        self.assertEqual([self.spans(told, 9, 3), self.spans(told, 1, 2), self.spans(told, 1, 3)], [[], [], [2, 4]])

    def test_from_the_first_to_the_last_day(self):
        self.assertEqual(self.spans([paper(1, 5, 7)], 1), [5, 7])
        self.assertEqual(self.spans([paper(1, 5, 5)], 1), [5, 5])

    def test_edges_of_days_and_numbers(self):
        self.assertEqual(self.spans([paper(999)], 999), [0, 9999])
        self.assertEqual(self.spans([paper(1, 0, 0)], 1), [0, 0])
        self.assertEqual(self.spans([paper(1, 9999, 9999)], 1), [9999, 9999])
        self.assertEqual(behind([paper(1), day(9999)], spans(1, 9999)), [[0, 0, 9999]])

    def test_a_last_day_before_the_first_one(self):
        for first, final in ((9, 8), (9, 7), (9, 0), (9999, 0), (1, 0)):
            self.assertEqual(self.spans([paper(1, first, final), paper(2, 0, 5)], 1), [], (first, final))

    def test_without_grounds(self):
        self.assertEqual(self.spans([paper(1, 0, 50, [])], 1), [])

    def test_a_ring(self):
        ring = [paper(1, 0, 50, ground((2, 0))), paper(2, 0, 50, ground((1, 0)))]
        self.assertEqual([self.spans(ring, 1), self.spans(ring, 2)], [[], []])

    def test_rests_with_0(self):
        told = [paper(1, 10, 20), paper(2, 5, 30, ground((1, 0))), paper(3, 12, 15, ground((2, 0)))]
        self.assertEqual([self.spans(told, 2), self.spans(told, 3)], [[10, 20], [12, 15]])

    def test_rests_with_0_on_two_papers(self):
        told = [paper(1, 0, 20), paper(2, 15, 40), paper(3, 0, 99, ground((1, 0), (2, 0)))]
        self.assertEqual(self.spans(told, 3), [15, 20])

    def test_rests_with_1(self):
        told = [paper(1, 10, 20), paper(2, 20, 60, ground((1, 1))), paper(3, 21, 60, ground((1, 1))),
                paper(4, 9, 60, ground((1, 1)))]
        self.assertEqual([self.spans(told, of) for of in (2, 3, 4)], [[20, 60], [], []])

    def test_rests_with_0_and_with_1(self):
        told = [paper(1, 0, 20), paper(2, 15, 60, ground((1, 1))), paper(3, 5, 90, ground((2, 0)) + ground((1, 0)))]
        self.assertEqual(self.spans(told, 3), [5, 60])

    def test_several_stretches(self):
        told = [paper(1, 0, 9), paper(2, 20, 29), paper(3, 40, 49), paper(4, 5, 45, ground((1, 0)) + ground((2, 0))
                                                                         + ground((3, 0)))]
        self.assertEqual(self.spans(told, 4), [5, 9, 20, 29, 40, 45])

    def test_stretches_that_touch_are_one(self):
        told = [paper(1, 0, 9), paper(2, 10, 29), paper(3, 0, 50, ground((1, 0)) + ground((2, 0)))]
        self.assertEqual(self.spans(told, 3), [0, 29])

    def test_with_one_day_between_they_are_two(self):
        told = [paper(1, 0, 9), paper(2, 11, 29), paper(3, 0, 50, ground((1, 0)) + ground((2, 0)))]
        self.assertEqual(self.spans(told, 3), [0, 9, 11, 29])

    def test_stretches_of_one_day(self):
        told = [paper(1, 4, 4), paper(2, 6, 6), paper(3, 7, 7), paper(4, 0, 50, ground((1, 0)) + ground((2, 0))
                                                                      + ground((3, 0)))]
        self.assertEqual(self.spans(told, 4), [4, 4, 6, 7])

    def test_what_begins_beside_it_parts_nothing(self):
        told = [paper(1, 3, 30), paper(2, 10, 20), paper(5, 12, 11), revoke(1, 2, 15), revoke(2, 9, 17)]
        self.assertEqual(self.spans(told, 1), [3, 30])

    def test_a_stretch_that_ends_on_the_last_day_of_all(self):
        told = [paper(1, 9998, 9999), paper(2, 0, 9, FREE), paper(3, 5, 9999, ground((1, 0)) + ground((2, 0)))]
        self.assertEqual(self.spans(told, 3), [5, 9, 9998, 9999])

    def test_revocations(self):
        told = [paper(1, 10, 60), revoke(1, 1, 15)]
        self.assertEqual(self.spans(told, 1), [10, 14])
        self.assertEqual(self.spans(told + [revoke(2, 1, 12)], 1), [10, 11])
        self.assertEqual(self.spans(told + [revoke(2, 1, 20)], 1), [10, 14])

    def test_revocations_at_the_edges_of_a_paper(self):
        for since, wanted in ((0, []), (9, []), (10, []), (11, [10, 10]), (60, [10, 59]), (61, [10, 60])):
            self.assertEqual(self.spans([paper(1, 10, 60), revoke(1, 1, since)], 1), wanted, since)

    def test_revocations_of_what_it_rests_on(self):
        told = [paper(1, 0, 99), paper(2, 10, 60, ground((1, 0))), paper(3, 20, 90, ground((1, 1))), revoke(1, 1, 25)]
        self.assertEqual([self.spans(told, of) for of in (1, 2, 3)], [[0, 24], [10, 24], [20, 90]])
        told = told[:3] + [revoke(1, 1, 20)]
        self.assertEqual([self.spans(told, of) for of in (1, 2, 3)], [[0, 19], [10, 19], []])

    def test_taken_back_revocations(self):
        told = [paper(1, 10, 60), day(3), revoke(1, 1, 15), day(5), back(1)]
        self.assertEqual([self.spans(told, 1, k) for k in (2, 3, 4, 5)], [[10, 60], [10, 14], [10, 14], [10, 60]])

    def test_as_known_then(self):
        told = [paper(2, 0, 50, ground((1, 0))), day(4), paper(1, 10, 20), day(6)]
        self.assertEqual([self.spans(told, 2, k) for k in (0, 3, 4, 6)], [[], [], [10, 20], [10, 20]])

    def test_each_day_of_a_stretch_and_no_other_stands(self):
        told = [paper(1, 5, 40), paper(2, 0, 60, ground((1, 0)) + ground((4, 1), (3, 0))), paper(3, 45, 50), paper(4),
                revoke(1, 1, 30), revoke(2, 3, 48)]
        self.assertEqual(self.spans(told, 2), [5, 29, 45, 47])
        given = behind(told, *[stands(2, d) for d in range(62)])
        self.assertEqual([d for d in range(62) if given[d] == [0, 1]], list(range(5, 30)) + [45, 46, 47])


class Moved(unittest.TestCase):
    def test_out_of_range(self):
        for out in DAYS_OUT:
            self.assertEqual(run(moved(out, 0, 0), moved(0, out, 0), moved(0, 0, out)), [[-2]] * 3, out)

    def test_not_yet(self):
        given = run(day(5), moved(0, 6, 0), moved(0, 0, 6), moved(0, 6, 6), moved(0, 5, 5), moved(0, 4, 5), moved(0, 5, 4))
        self.assertEqual(given[1:], [[-7], [-7], [-7], [0], [0], [0]])

    def test_d_and_k_are_looked_at_before_m(self):
        self.assertEqual(run(moved(0, 1, 10000), moved(0, 1, -1)), [[-7], [-7]])
        self.assertEqual(run(moved(0, 10000, 1), moved(-1, 0, 1), moved(-1, 1, 0), moved(-1, 1, 1)), [[-2]] * 4)

    def test_edges_of_days(self):
        told = [paper(1), day(9999), paper(2)]
        asked = [moved(0, 0, 9999), moved(9999, 9999, 0), moved(9999, 9998, 9998), moved(0, 9998, 9999)]
        self.assertEqual(behind(told, *asked), [[0, 2], [0, 2], [0], [0, 2]])

    def test_the_two_days_may_stand_either_way_round(self):
        told = [paper(1), paper(2, 0, 50, ground((1, 0))), paper(3), day(3), revoke(1, 1, 10), day(5)]
        self.assertEqual(behind(told, moved(10, 2, 3), moved(10, 3, 2), moved(9, 2, 3), moved(10, 5, 0)),
                         [[0, 1, 2], [0, 1, 2], [0], [0, 1, 2]])

    def test_the_same_day_twice(self):
        told = [paper(1), day(3), revoke(1, 1, 10), day(5), back(1)]
        self.assertEqual(behind(told, *[moved(10, k, k) for k in (0, 3, 4, 5)]), [[0]] * 4)

    def test_papers_heard_between_the_two(self):
        told = [paper(4), paper(1, 0, 9, ground((2, 0))), day(4), paper(3, 0, 9), paper(5, 20, 30), day(6), paper(2)]
        asked = [moved(5, 0, 4), moved(5, 4, 6), moved(5, 6, 0), moved(25, 3, 4)]
        self.assertEqual(behind(told, *asked), [[0, 3], [0, 1, 2], [0, 1, 3, 2], [0, 5]])

    def test_up_and_down_at_once_in_the_order_of_telling(self):
        told = [paper(9), paper(1, 0, 50, ground((7, 0))), paper(5), day(2), revoke(1, 9, 0), paper(7), day(3)]
        self.assertEqual(behind(told, moved(5, 1, 2), moved(5, 3, 0)), [[0, 9, 1, 7], [0, 9, 1, 7]])

    def test_away_and_back_between_the_two_is_not_moved(self):
        told = [paper(1), day(3), revoke(1, 1, 10), day(5), back(1)]
        self.assertEqual(behind(told, moved(10, 2, 5), moved(10, 2, 4), moved(10, 4, 5)), [[0], [0, 1], [0, 1]])


if __name__ == "__main__":
    unittest.main()
