"""The calls told_of and sizes."""

import unittest

from tests.helper import FREE, HUGE, back, behind, day, decide, ground, paper, revoke, run, sizes, told_of


class ToldOf(unittest.TestCase):
    def test_out_of_range(self):
        for out in (0, 1000, -1, HUGE, -HUGE):
            self.assertEqual(run(told_of(out)), [[-2]], out)

    def test_none_such(self):
        self.assertEqual(run(told_of(1), told_of(999), paper(2), revoke(1, 1), told_of(1)),
                         [[-3], [-3], [0, 1], [0, 1], [-3]])

    def test_out_of_range_is_looked_at_before_none_such(self):
        self.assertEqual(run(told_of(1000), told_of(0)), [[-2], [-2]])

    def test_edges(self):
        told = [paper(1, 0, 0), day(9999), paper(999, 9999, 9999)]
        self.assertEqual(behind(told, told_of(1), told_of(999)), [[0, 0, 0, 0, 0], [0, 9999, 9999, 9999, 0]])

    def test_when_it_was_heard_of(self):
        given = run(paper(1, 3, 4), day(7), paper(2, 3, 4), day(9), told_of(1), told_of(2))
        self.assertEqual(given[4:], [[0, 3, 4, 0, 0], [0, 3, 4, 7, 0]])

    def test_grounds_as_told(self):
        rows = ([], FREE, [0, 0, 0], ground((5, 1), (2, 0)), ground((2, 0)) + FREE + ground((999, 1), (2, 1), (2, 0), (1, 0)),
                FREE + ground((7, 0)), ground((3, 0)) + ground((3, 0)))
        for row in rows:
            self.assertEqual(run(paper(7, 20, 10, row), told_of(7))[1], [0, 20, 10, 0] + row)

    def test_the_longest_grounds(self):
        row = ground((9, 0), (9, 1), (8, 0), (8, 1)) * 3
        self.assertEqual(run(paper(7, 0, 9, row), told_of(7))[1], [0, 0, 9, 0] + row)

    def test_a_second_telling_that_is_refused_changes_nothing(self):
        given = run(paper(7, 0, 9, ground((1, 0))), day(2), paper(7, 5, 6, []), told_of(7))
        self.assertEqual(given[2:], [[-4], [0, 0, 9, 0, 1, 1, 0]])

    def test_revocations_and_decisions_do_not_change_it(self):
        told = [paper(7, 0, 9), revoke(1, 7, 0), decide(7), day(3)]
        self.assertEqual(behind(told, told_of(7)), [[0, 0, 9, 0, 0]])


class Sizes(unittest.TestCase):
    def test_at_first(self):
        self.assertEqual(run(sizes()), [[0, 0, 0, 0, 0]])

    def test_each_is_counted(self):
        given = run(paper(1), sizes(), paper(2), paper(3), revoke(1, 1), revoke(2, 1), sizes(), decide(1), sizes(), day(8),
                    sizes())
        self.assertEqual([given[place] for place in (1, 6, 8, 10)],
                         [[0, 0, 1, 0, 0], [0, 0, 3, 2, 0], [0, 0, 3, 2, 1], [0, 8, 3, 2, 1]])

    def test_taken_back_revocations_are_counted(self):
        self.assertEqual(run(revoke(1, 1), revoke(2, 1), day(2), back(1), sizes())[-1], [0, 2, 0, 2, 0])

    def test_what_is_refused_is_not_counted(self):
        given = run(paper(1), paper(1), paper(0), revoke(1, 1), revoke(1, 2), decide(0), decide(1), paper(2), day(-1), sizes())
        self.assertEqual(given[-1], [0, 0, 1, 1, 1])

    def test_all_that_there_can_be(self):
        told = [paper(number) for number in range(1, 25)] + [revoke(number, 1) for number in range(1, 21)] + [day(9999)]
        self.assertEqual(behind(told + [decide(1)] * 30, sizes()), [[0, 9999, 24, 20, 30]])


if __name__ == "__main__":
    unittest.main()
