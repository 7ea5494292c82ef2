"""The document's examples, whole."""

import unittest

from papersonpapers.house import answers
from tests.helper import back, chain, day, decide, moved, paper, proof, pulled, review, revoke, run, spans, stands, why

FIRST_ROW = [
    (paper(1, 0, 100, [0]), [0, 1]),
    (paper(2, 10, 60, [1, 1, 0]), [0, 2]),
    (paper(3, 20, 90, [1, 2, 1]), [0, 3]),
    (paper(4, 0, 99, [1, 4, 0]), [0, 4]),
    (stands(3, 70, 0), [0, 1]),
    (proof(3, 70, 0), [0, 1, 1, 20, 1, 2, 20, 1, 3, 70, 1]),
    (stands(2, 70, 0), [0, 0]),
    (why(2, 70, 0), [0, 3]),
    (proof(4, 5, 0), [0, 0, 4, 5]),
    (spans(3, 0), [0, 20, 90]),
    (decide(3, 70), [0, 1, 1]),
    (paper(5, 0, 9, [0]), [-5]),
]
SECOND_ROW = [
    (day(9), [0]),
    (revoke(1, 1, 15), [0, 1]),
    (stands(3, 70, 9), [0, 0]),
    (stands(3, 70, 8), [0, 1]),
    (spans(2, 9), [0, 10, 14]),
    (pulled(1, 70, 9), [0, 1, 3]),
    (chain(1, 3, 70, 9), [0, 1, 3, 70, 2, 20, 1, 20]),
    (review(), [0, 1, 9, 0]),
    (day(12), [0]),
    (back(1), [0]),
    (review(), [0, 1, 9, 1]),
    (moved(70, 8, 9), [0, 1, 3]),
    (moved(70, 8, 12), [0]),
]


class Examples(unittest.TestCase):
    def test_first_row(self):
        self.assertEqual(run(*[call for call, _ in FIRST_ROW]), [given for _, given in FIRST_ROW])

    def test_second_row_behind_the_first_one(self):
        rows = FIRST_ROW + SECOND_ROW
        self.assertEqual(run(*[call for call, _ in rows]), [given for _, given in rows])

    def test_number_by_number(self):
        calls = [
            1, 1, 0, 100, 1, 0, 1, 2, 10, 60, 3, 1, 1, 0, 1, 3, 20, 90, 3, 1, 2, 1, 1, 4, 0, 99, 3, 1, 4, 0,
            4, 3, 70, 0, 6, 3, 70, 0, 4, 2, 70, 0, 5, 2, 70, 0, 6, 4, 5, 0, 10, 3, 0, 14, 3, 70, 1, 5, 0, 9, 1, 0,
            0, 9, 2, 1, 1, 15, 4, 3, 70, 9, 4, 3, 70, 8, 10, 2, 9, 11, 1, 70, 9, 12, 1, 3, 70, 9, 15,
            0, 12, 3, 1, 15, 13, 70, 8, 9, 13, 70, 8, 12,
        ]
        self.assertEqual(answers(calls), [
            2, 0, 1, 2, 0, 2, 2, 0, 3, 2, 0, 4,
            2, 0, 1, 11, 0, 1, 1, 20, 1, 2, 20, 1, 3, 70, 1, 2, 0, 0, 2, 0, 3, 4, 0, 0, 4, 5, 3, 0, 20, 90, 3, 0, 1, 1,
            1, -5,
            1, 0, 2, 0, 1, 2, 0, 0, 2, 0, 1, 3, 0, 10, 14, 3, 0, 1, 3, 8, 0, 1, 3, 70, 2, 20, 1, 20, 4, 0, 1, 9, 0,
            1, 0, 1, 0, 4, 0, 1, 9, 1, 3, 0, 1, 3, 1, 0,
        ])


if __name__ == "__main__":
    unittest.main()
