"""The calls proof, tree and shut."""

import unittest

from tests.helper import FREE, HUGE, back, day, ground, last, paper, proof, revoke, run, shut, tree


class Steps(unittest.TestCase):
    def test_a_ground_without_rests(self):
        self.assertEqual(last(paper(1), proof(1, 8)), [0, 1, 1, 8, 1])

    def test_lesser_ranks_stand_first(self):
        told = [paper(1), paper(2, 0, 9, ground((1, 0))), paper(3, 0, 9, ground((2, 0))),
                paper(4, 0, 9, ground((3, 0), (1, 0)))]
        self.assertEqual(last(*told, proof(4, 5)), [0, 1, 1, 5, 1, 2, 5, 1, 3, 5, 1, 4, 5, 1])

    def test_of_one_rank_as_they_are_come_to(self):
        told = [paper(1), paper(2), paper(3), paper(4, 0, 9, ground((3, 0), (1, 0))),
                paper(5, 0, 9, ground((2, 0), (3, 0))), paper(6, 0, 9, ground((5, 0), (4, 0)))]
        self.assertEqual(last(*told, proof(6, 5)),
                         [0, 1, 2, 5, 1, 3, 5, 1, 1, 5, 1, 5, 5, 1, 4, 5, 1, 6, 5, 1])

    def test_come_to_in_rounds_and_not_one_way_to_its_end(self):
        told = [paper(1), paper(2), paper(3, 0, 9, ground((1, 0))), paper(4, 0, 9, ground((3, 0), (2, 0)))]
        self.assertEqual(last(*told, proof(4, 5)), [0, 1, 2, 5, 1, 1, 5, 1, 3, 5, 1, 4, 5, 1])

    def test_each_once(self):
        told = [paper(1), paper(2, 0, 9, ground((1, 0))), paper(3, 0, 9, ground((1, 0))),
                paper(4, 0, 9, ground((2, 0), (3, 0), (1, 0), (1, 1)))]
        self.assertEqual(last(*told, proof(4, 5)), [0, 1, 1, 5, 1, 1, 0, 1, 2, 5, 1, 3, 5, 1, 4, 5, 1])

    def test_one_paper_on_two_days(self):
        told = [paper(1), paper(2, 3, 9, ground((1, 1), (1, 0)))]
        self.assertEqual(last(*told, proof(2, 5)), [0, 1, 1, 3, 1, 1, 5, 1, 2, 5, 1])
        self.assertEqual(last(*told, proof(2, 3)), [0, 1, 1, 3, 1, 2, 3, 1])

    def test_the_ground_is_the_first_one_of_lesser_ranks(self):
        grounds = ground((2, 0)) + ground((1, 0)) + FREE
        self.assertEqual(last(paper(1), paper(2, 0, 9, ground((1, 0))), paper(3, 0, 9, grounds), proof(3, 5)),
                         [0, 1, 3, 5, 3])
        grounds = ground((2, 0)) + ground((1, 0)) + ground((4, 0))
        told = [paper(1), paper(4), paper(2, 0, 9, ground((1, 0))), paper(3, 0, 9, grounds)]
        self.assertEqual(last(*told, proof(3, 5)), [0, 1, 1, 5, 1, 3, 5, 2])

    def test_a_ground_that_does_not_stand_is_passed_over(self):
        grounds = ground((1, 0), (9, 0)) + ground((1, 0))
        self.assertEqual(last(paper(1), paper(3, 0, 9, grounds), proof(3, 5)), [0, 1, 1, 5, 1, 3, 5, 2])

    def test_a_ground_within_a_ring_is_passed_over(self):
        told = [paper(1), paper(2, 0, 9, ground((3, 0)) + ground((1, 0))), paper(3, 0, 9, ground((2, 0)))]
        self.assertEqual(last(*told, proof(3, 5)), [0, 1, 1, 5, 1, 2, 5, 2, 3, 5, 1])

    def test_as_known_then(self):
        told = [paper(2, 0, 9, ground((1, 0)) + ground((3, 0))), paper(3), day(4), paper(1), day(6), revoke(1, 3, 0),
                day(8), back(1)]
        wanted = {3: [3, 5, 1, 2, 5, 2], 4: [1, 5, 1, 2, 5, 1], 6: [1, 5, 1, 2, 5, 1], 8: [1, 5, 1, 2, 5, 1]}
        for k, steps in wanted.items():
            self.assertEqual(last(*told, proof(2, 5, k)), [0, 1] + steps)

    def test_the_longest_row_over_many_days(self):
        told = [paper(1)]
        told += [paper(of, of, 9999, ground((of - 1, 1))) for of in range(2, 25)]
        steps = [1, 2, 1]
        for of in range(2, 24):
            steps += [of, of + 1, 1]
        self.assertEqual(last(*told, proof(24, 500)), [0, 1] + steps + [24, 500, 1])


class ClosedSet(unittest.TestCase):
    def test_not_known_or_not_good_by_itself_it_is_alone(self):
        self.assertEqual(last(proof(5, 8)), [0, 0, 5, 8])
        told = [paper(2, 5, 9, ground((1, 0))), revoke(1, 2, 8)]
        for d in (4, 8, 10):
            self.assertEqual(last(*told, proof(2, d)), [0, 0, 2, d])
        self.assertEqual(last(*told, proof(2, 7)), [0, 0, 2, 7, 1, 7])

    def test_without_grounds_it_is_alone(self):
        self.assertEqual(last(paper(1, 0, 9, []), proof(1, 8)), [0, 0, 1, 8])

    def test_the_first_rest_that_does_not_stand_of_each_ground(self):
        grounds = ground((1, 0), (5, 0), (6, 0)) + ground((7, 1), (1, 0)) + ground((1, 0), (8, 0))
        self.assertEqual(last(paper(1), paper(2, 3, 9, grounds), proof(2, 8)), [0, 0, 2, 8, 5, 8, 7, 3, 8, 8])

    def test_in_rounds(self):
        told = [paper(1, 0, 9, ground((2, 0)) + ground((3, 0))), paper(2, 0, 9, ground((4, 0)) + ground((3, 0))),
                paper(3, 0, 9, ground((5, 0)) + ground((1, 0)))]
        self.assertEqual(last(*told, proof(1, 8)), [0, 0, 1, 8, 2, 8, 3, 8, 4, 8, 5, 8])

    def test_each_once_on_each_day(self):
        told = [paper(1, 4, 9, ground((2, 0)) + ground((2, 1)) + ground((2, 0)))]
        self.assertEqual(last(*told, proof(1, 8)), [0, 0, 1, 8, 2, 8, 2, 4])
        self.assertEqual(last(*told, proof(1, 4)), [0, 0, 1, 4, 2, 4])

    def test_a_ring(self):
        told = [paper(1, 2, 9, ground((2, 0))), paper(2, 3, 9, ground((1, 1)))]
        self.assertEqual(last(*told, proof(1, 8)), [0, 0, 1, 8, 2, 8, 1, 3, 2, 3])


class Tree(unittest.TestCase):
    told = [paper(1, 0, 20), paper(2, 5, 30, ground((1, 0)) + ground((1, 1))), paper(3, 0, 9, [1, 3, 0])]

    def right(self, steps, of=2, d=9, k=0, told=None):
        return last(*(told or self.told), tree(of, d, k, steps))

    def test_right_rows(self):
        for steps in ([1, 9, 1, 2, 9, 1], [1, 5, 1, 2, 9, 2], [1, 5, 1, 1, 9, 1, 2, 9, 1],
                      [1, 9, 1, 2, 9, 1, 2, 9, 1], [1, 9, 1, 2, 9, 1, 1, 7, 1], [1, 9, 1, 1, 9, 1, 2, 9, 1]):
            self.assertEqual(self.right(steps), [0, 1], steps)

    def test_a_rest_that_is_not_in_a_step_before(self):
        for steps in ([2, 9, 1], [2, 9, 1, 1, 9, 1], [1, 9, 1, 2, 9, 2], [1, 5, 1, 2, 9, 1], [1, 8, 1, 2, 9, 1]):
            self.assertEqual(self.right(steps), [0, 0], steps)

    def test_a_paper_does_not_hold_itself_up(self):
        self.assertEqual(self.right([3, 9, 1], of=3), [0, 0])
        self.assertEqual(self.right([3, 9, 1, 3, 9, 1], of=3), [0, 0])

    def test_a_ground_that_it_does_not_have(self):
        for number in (0, 3, HUGE):
            self.assertEqual(self.right([1, 9, 1, 1, 5, 1, 2, 9, number]), [0, 0])
        self.assertEqual(self.right([4, 9, 1], of=4, told=[paper(4, 0, 9, [])]), [0, 0])

    def test_the_asked_one_is_not_among_them(self):
        for steps in ([], [1, 9, 1], [1, 8, 1, 2, 8, 1]):
            self.assertEqual(self.right(steps), [0, 0], steps)

    def test_one_wrong_step_is_enough(self):
        for wrong in ([7, 9, 1], [0, 9, 1], [1, 21, 1], [1, HUGE, 1], [HUGE, 9, 1], [2, 4, 2], [3, 9, 1]):
            self.assertEqual(self.right([1, 9, 1, 1, 5, 1, 2, 9, 1] + wrong), [0, 0], wrong)
            self.assertEqual(self.right(wrong + [1, 9, 1, 1, 5, 1, 2, 9, 1]), [0, 0], wrong)

    def test_good_by_itself_as_known_then(self):
        told = self.told + [day(3), revoke(1, 1, 9), day(5), back(1)]
        steps = [1, 9, 1, 2, 9, 1]
        self.assertEqual([self.right(steps, 2, 9, k, told) for k in (2, 3, 4, 5)], [[0, 1], [0, 0], [0, 0], [0, 1]])
        self.assertEqual(self.right([1, 8, 1, 2, 8, 1], 2, 8, 3, told), [0, 1])
        self.assertEqual(self.right(steps, 2, 9, 0, [day(1)] + self.told), [0, 0])

    def test_lists_not_as_told(self):
        for steps in ([1], [1, 9], [1, 9, 1, 2], [1, 9, 1, 2, 9], [-1, 9, 1], [1, -1, 1], [1, 9, -1],
                      [1, 9, 1, 2, 9, -HUGE]):
            self.assertEqual(self.right(steps), [-9], steps)

    def test_a_number_below_0_behind_a_wrong_step_is_refused(self):
        self.assertEqual(self.right([7, 7, 7, 1, -1, 1]), [-9])


class Shut(unittest.TestCase):
    told = [paper(1, 0, 20), paper(2, 5, 30, ground((1, 0), (3, 0)) + ground((4, 1), (1, 0))),
            paper(3, 0, 9, ground((3, 0)))]

    def right(self, members, of=2, d=9, k=0, told=None):
        return last(*(told or self.told), shut(of, d, k, members))

    def test_right_sets(self):
        for members in ([2, 9, 3, 9, 4, 5], [4, 5, 3, 9, 2, 9], [2, 9, 2, 9, 3, 9, 4, 5, 3, 9],
                        [2, 9, 3, 9, 4, 5, 0, 0], [2, 9, 3, 9, 4, 5, HUGE, HUGE], [2, 9, 3, 9, 4, 5, 1, 21]):
            self.assertEqual(self.right(members), [0, 1], members)

    def test_a_ground_has_no_rest_in_the_set(self):
        for members in ([2, 9], [2, 9, 3, 9], [2, 9, 4, 5], [2, 9, 3, 9, 4, 9], [2, 9, 3, 5, 4, 5]):
            self.assertEqual(self.right(members), [0, 0], members)

    def test_each_one_in_it_is_looked_at(self):
        for more in ([1, 9], [2, 8], [1, 0]):
            self.assertEqual(self.right([2, 9, 3, 9, 4, 5] + more), [0, 0], more)
            self.assertEqual(self.right(more + [2, 9, 3, 9, 4, 5]), [0, 0], more)

    def test_the_asked_one_is_not_in_it(self):
        for members in ([], [3, 9], [3, 9, 4, 5], [7, 9], [2, 4]):
            self.assertEqual(self.right(members), [0, 0], members)

    def test_a_ground_without_rests_is_never_shut(self):
        self.assertEqual(self.right([1, 9], of=1), [0, 0])
        self.assertEqual(self.right([5, 9, 8, 9], of=5, told=[paper(5, 0, 9, ground((8, 0)) + FREE)]), [0, 0])

    def test_what_has_no_ground_or_is_not_good_by_itself_is_shut_alone(self):
        self.assertEqual(self.right([5, 9], of=5, told=[paper(5, 0, 9, [])]), [0, 1])
        self.assertEqual(self.right([7, 9], of=7), [0, 1])
        self.assertEqual(self.right([1, 21], of=1, d=21), [0, 1])
        self.assertEqual(self.right([2, 4], of=2, d=4), [0, 1])

    def test_good_by_itself_as_known_then(self):
        told = self.told + [day(3), revoke(1, 1, 9), day(5), back(1)]
        self.assertEqual([self.right([1, 9], 1, 9, k, told) for k in (2, 3, 4, 5)], [[0, 0], [0, 1], [0, 1], [0, 0]])
        self.assertEqual(self.right([1, 8], 1, 8, 3, told), [0, 0])
        self.assertEqual(self.right([1, 9], 1, 9, 0, [day(1)] + self.told), [0, 1])

    def test_lists_not_as_told(self):
        for members in ([2], [2, 9, 3], [-1, 9], [2, -1], [2, 9, 3, -HUGE]):
            self.assertEqual(self.right(members), [-9], members)

    def test_a_number_below_0_behind_a_wrong_member_is_refused(self):
        self.assertEqual(self.right([1, 9, 2, -1]), [-9])


class Repeatable(unittest.TestCase):
    def test_what_proof_answers_is_right(self):
        told = [paper(1, 0, 20), paper(2, 5, 30, ground((1, 0)) + ground((1, 1))), paper(3, 0, 9, [1, 3, 0])]
        for of in (1, 2, 3, 4):
            for d in (0, 5, 9, 20, 21, 31):
                given = last(*told, proof(of, d))
                check = tree if given[1] == 1 else shut
                self.assertEqual(run(*told, check(of, d, 0, given[2:]))[3], [0, 1])


if __name__ == "__main__":
    unittest.main()
