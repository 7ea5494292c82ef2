"""The document's examples, as far as they tell the calls that are built."""

import unittest

from tests.helper import back, day, paper, proof, revoke, run, stands, why

PAPERS = [
    paper(1, 0, 100, [0]),
    paper(2, 10, 60, [1, 1, 0]),
    paper(3, 20, 90, [1, 2, 1]),
    paper(4, 0, 99, [1, 4, 0]),
]


class Examples(unittest.TestCase):
    def test_first_row(self):
        given = run(*PAPERS, stands(3, 70, 0), proof(3, 70, 0), stands(2, 70, 0), why(2, 70, 0), proof(4, 5, 0))
        self.assertEqual(given, [
            [0, 1], [0, 2], [0, 3], [0, 4],
            [0, 1],
            [0, 1, 1, 20, 1, 2, 20, 1, 3, 70, 1],
            [0, 0],
            [0, 3],
            [0, 0, 4, 5],
        ])

    def test_second_row(self):
        given = run(*PAPERS, day(9), revoke(1, 1, 15), stands(3, 70, 9), stands(3, 70, 8), day(12), back(1))
        self.assertEqual(given[4:], [[0], [0, 1], [0, 0], [0, 1], [0], [0]])


if __name__ == "__main__":
    unittest.main()
