"""How calls are handed in and answers given back."""

import unittest

from papersonpapers.house import answers
from tests.helper import FREE, HUGE, all_that_stand, back, chain, day, decide, moved, paper, proof, pulled, review, revoke
from tests.helper import run, shut, sizes, spans, stands, told_of, tree, why

# Each call at least once, with answers of every sort.
EACH_CALL = [
    paper(1), paper(2, 3, 50, [2, 1, 0, 1, 1, 0]), paper(3, 0, 9, [1, 3, 0]), decide(2, 25), paper(4), day(4),
    revoke(1, 1, 20), stands(2, 9, 4), why(2, 25, 4), proof(2, 9, 4), proof(2, 25, 4), tree(2, 9, 4, [1, 9, 1, 2, 9, 1]),
    shut(2, 25, 4, [2, 25, 1, 25]), all_that_stand(9, 4), spans(2, 4), pulled(1, 25, 4), chain(1, 1, 25, 4),
    chain(1, 2, 25, 4), moved(25, 3, 4), review(), told_of(2), sizes(), day(6), back(1), back(1), review(), pulled(1, 25, 6),
    sizes(),
]


class ReadOnly(list):
    """A list that no one may change, not for a while either."""

    def refuse(self, *args, **named):
        raise AssertionError("what is handed in is changed")

    append = extend = insert = pop = remove = clear = reverse = sort = refuse
    __setitem__ = __delitem__ = __iadd__ = __imul__ = refuse


class Interface(unittest.TestCase):
    def test_each_answer_has_its_count_before_it(self):
        self.assertEqual(answers([1, 7, 0, 5, 1, 0]), [2, 0, 1])
        self.assertEqual(answers([0, 3]), [1, 0])
        self.assertEqual(answers([0, -1]), [1, -2])

    def test_calls_stand_one_behind_another(self):
        calls = [0, 2, 1, 7, 0, 5, 3, 1, 8, 0, 4, 7, 3, 2, 8, 7, 3, 2, 4, 7, 3, 8, 3, 7, 7, 3, 2, 0, 0, 1]
        self.assertEqual(answers(calls), [1, 0, 2, 0, 1, 2, 0, 0, 2, 0, 1, 2, 0, 0, 1, -5])

    def test_empty_rows(self):
        self.assertEqual(answers([1, 7, 0, 5, 0, 7, 7, 3, 0, 0, 8, 7, 3, 0, 0]), [2, 0, 1, 2, 0, 0, 2, 0, 0])

    def test_gives_back_a_list_of_whole_numbers(self):
        given = answers([number for call in EACH_CALL for number in call])
        self.assertIs(type(given), list)
        self.assertEqual({type(number) for number in given}, {int})

    def test_the_calls_9_to_17_stand_one_behind_another(self):
        calls = [1, 7, 0, 5, 1, 0, 2, 3, 7, 2, 9, 1, 0, 10, 7, 0, 11, 3, 4, 0, 12, 3, 7, 4, 0, 13, 4, 0, 0, 14, 7, 1, 15,
                 16, 7, 17, 0, 8]
        self.assertEqual(answers(calls), [2, 0, 1, 2, 0, 1, 2, 0, 7, 3, 0, 0, 1, 2, 0, 7, 4, 0, 1, 7, 4, 1, 0, 3, 0, 1, 1,
                                          1, 0, 5, 0, 0, 5, 0, 0, 5, 0, 0, 1, 1, 1, 1, 0])

    def test_each_of_the_calls_by_itself(self):
        given = [answers(call) for call in ([9, 0, 0], [10, 1, 0], [11, 1, 0, 0], [12, 1, 1, 0, 0], [13, 0, 0, 0],
                                            [14, 1, 0], [15], [16, 1], [17])]
        self.assertEqual(given, [[1, 0], [1, 0], [1, -3], [1, -3], [1, 0], [3, 0, 1, 0], [1, 0], [1, -3], [5, 0, 0, 0, 0, 0]])

    def test_numbers_of_any_size_in_each_place(self):
        for much in (HUGE, -HUGE):
            calls = []
            for call in (all_that_stand(), spans(1), pulled(1), chain(1, 1), moved(0, 0, 0), decide(1), told_of(1)):
                calls += [call[:place] + [much] + call[place + 1:] for place in range(1, len(call))]
            self.assertEqual(run(*calls, sizes()), [[-2]] * len(calls) + [[0, 0, 0, 0, 0]])

    def test_no_number_is_below_0_but_a_refusal(self):
        for row in run(*EACH_CALL):
            self.assertTrue(row[0] == 0 and min(row) == 0 or len(row) == 1 and row[0] < 0, row)

    def test_what_is_handed_in_is_not_changed(self):
        calls = [number for call in EACH_CALL for number in call]
        before = list(calls)
        given = answers(calls)
        self.assertEqual(calls, before)
        self.assertEqual(answers(ReadOnly(calls)), given)

    def test_twice_the_same_and_nothing_is_kept(self):
        calls = [number for call in EACH_CALL for number in call]
        once = answers(calls)
        answers(paper(1, 5, 6, []) + revoke(2, 2) + decide(1) + day(9999))
        self.assertEqual(answers(calls), once)
        self.assertEqual(run(stands(1, 5, 0), stands(1, 5, 1), sizes(), review()), [[0, 0], [-7], [0, 0, 0, 0, 0], [0]])

    def test_given_lists_are_not_shared(self):
        answers(paper(1)).append(5)
        self.assertEqual(answers(paper(1)), [2, 0, 1])

    def test_what_is_given_back_holds_nothing_of_what_is_handed_in(self):
        calls = paper(1, 0, 9, [1, 2, 0]) + told_of(1)
        given = answers(calls)
        calls[6] = 5
        self.assertEqual(given, [2, 0, 1, 7, 0, 0, 9, 0, 1, 2, 0])

    def test_a_hundred_calls(self):
        given = run(paper(1), *[stands(1, d, 0) for d in range(9900, 9999)])
        self.assertEqual(given, [[0, 1]] * 100)

    def test_rows_of_two_hundred_numbers(self):
        long = [HUGE] * 200
        given = run(paper(1), paper(2, 0, 9, long), tree(1, 0, 0, long), shut(1, 0, 0, long), stands(1))
        self.assertEqual(given, [[0, 1], [-9], [-9], [0, 0], [0, 1]])

    def test_long_rows_that_are_right(self):
        given = run(paper(1, 0, 9, FREE), tree(1, 0, 0, [1, 0, 1] * 66), shut(2, 0, 0, [2, 0] * 100))
        self.assertEqual(given, [[0, 1], [0, 1], [0, 1]])


if __name__ == "__main__":
    unittest.main()
