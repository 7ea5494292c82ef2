"""How calls are handed in and answers given back."""

import unittest

from papersonpapers.house import answers
from tests.helper import FREE, HUGE, day, paper, proof, revoke, run, shut, stands, tree, why


class Interface(unittest.TestCase):
    def test_each_answer_has_its_count_before_it(self):
        self.assertEqual(answers([1, 7, 0, 5, 1, 0]), [2, 0, 1])
        self.assertEqual(answers([0, 3]), [1, 0])
        self.assertEqual(answers([0, -1]), [1, -2])

    def test_calls_stand_one_behind_another(self):
        calls = [0, 2, 1, 7, 0, 5, 3, 1, 8, 0, 4, 7, 3, 2, 8, 7, 3, 2, 4, 7, 3, 8, 3, 7, 7, 3, 2, 0, 0, 1]
        self.assertEqual(answers(calls), [1, 0, 2, 0, 1, 2, 0, 0, 2, 0, 1, 2, 0, 0, 1, -5])

    def test_empty_rows(self):
        self.assertEqual(answers([1, 7, 0, 5, 0, 7, 7, 3, 0, 0, 8, 7, 3, 0, 0]), [2, 0, 1, 2, 0, 0, 2, 0, 0])

    def test_gives_back_a_list_of_whole_numbers(self):
        given = answers([1, 7, 0, 5, 1, 0, 4, 7, 3, 0, 5, 7, 3, 0, 6, 7, 3, 0, 7, 7, 3, 0, 0, 8, 7, 3, 0, 0])
        self.assertIs(type(given), list)
        self.assertEqual({type(number) for number in given}, {int})

    def test_what_is_handed_in_is_not_changed(self):
        calls = [number for call in [
            paper(1), paper(2, 3, 50, [2, 1, 0, 1, 1, 0]), day(4), revoke(1, 1, 20), stands(2, 9, 4), why(2, 25, 4),
            proof(2, 9, 4), proof(2, 25, 4), tree(2, 9, 4, [1, 9, 1, 2, 9, 1]), shut(2, 25, 4, [2, 25, 1, 25]),
        ] for number in call]
        before = list(calls)
        answers(calls)
        self.assertEqual(calls, before)

    def test_twice_the_same_and_nothing_is_kept(self):
        calls = paper(1) + day(4) + revoke(1, 1, 20) + stands(1, 20, 4) + stands(1, 20, 3)
        once = answers(calls)
        answers(paper(1, 5, 6, []) + day(9999))
        self.assertEqual(answers(calls), once)
        self.assertEqual(run(stands(1, 5, 0), stands(1, 5, 1)), [[0, 0], [-7]])

    def test_given_lists_are_not_shared(self):
        answers(paper(1)).append(5)
        self.assertEqual(answers(paper(1)), [2, 0, 1])

    def test_a_hundred_calls(self):
        given = run(paper(1), *[stands(1, d, 0) for d in range(9900, 9999)])
        self.assertEqual(given, [[0, 1]] * 100)

    def test_rows_of_two_hundred_numbers(self):
        long = [HUGE] * 200
        given = run(paper(1), paper(2, 0, 9, long), tree(1, 0, 0, long), shut(1, 0, 0, long), stands(1))
        self.assertEqual(given, [[0, 1], [-9], [-9], [0, 0], [0, 1]])

    def test_long_rows_that_are_right(self):
        given = run(paper(1, 0, 9, FREE), tree(1, 0, 0, [1, 0, 1] * 66), shut(2, 0, 0, [2, 0] * 100))
        self.assertEqual(given, [[0, 1], [0, 1], [0, 1]])


if __name__ == "__main__":
    unittest.main()
