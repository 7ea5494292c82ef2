"""The calls decide and review, and the promise that a decision is told again just if it's another one."""

import unittest

from tests.helper import HUGE, back, behind, day, decide, ground, paper, proof, review, revoke, run, sizes, stands

ON_ONE = ground((1, 0))


class Decide(unittest.TestCase):
    def test_out_of_range(self):
        for out in (0, 1000, -1, HUGE, -HUGE):
            self.assertEqual(run(decide(out), sizes()), [[-2], [0, 0, 0, 0, 0]], out)
        for out in (-1, 10000, HUGE, -HUGE):
            self.assertEqual(run(decide(1, out), sizes()), [[-2], [0, 0, 0, 0, 0]], out)

    def test_edges(self):
        given = run(paper(1), paper(999, 9999, 9999), decide(1, 0), decide(999, 9999), decide(999, 0), decide(1, 9999))
        self.assertEqual(given[2:], [[0, 1, 1], [0, 2, 1], [0, 3, 0], [0, 4, 1]])

    def test_whether_it_stands_on_the_day_that_is_told(self):
        given = run(paper(1, 5, 7), *[decide(1, d) for d in (4, 5, 7, 8)])
        self.assertEqual(given[1:], [[0, 1, 0], [0, 2, 1], [0, 3, 1], [0, 4, 0]])

    def test_as_known_today(self):
        told = [paper(2, 0, 50, ON_ONE), decide(2), day(3), paper(1), decide(2), day(5), revoke(1, 1), decide(2),
                day(7), back(1), decide(2)]
        self.assertEqual([row for row in run(*told) if len(row) == 3], [[0, 1, 0], [0, 2, 1], [0, 3, 0], [0, 4, 1]])

    def test_a_paper_that_is_not_known(self):
        self.assertEqual(run(decide(5, 20), decide(5, 20), sizes()), [[0, 1, 0], [0, 2, 0], [0, 0, 0, 0, 2]])

    def test_the_same_one_again_has_a_number_of_its_own(self):
        self.assertEqual(run(paper(1), decide(1), decide(1), day(2), decide(1))[1:], [[0, 1, 1], [0, 2, 1], [0], [0, 3, 1]])

    def test_thirty_and_one_more(self):
        given = run(paper(1), *[decide(1, d) for d in range(31)], sizes())
        self.assertEqual(given[1:], [[0, number, 1] for number in range(1, 31)] + [[-6], [0, 0, 1, 0, 30]])

    def test_full_on_another_day_too(self):
        told = [paper(1)] + [decide(1)] * 30
        self.assertEqual(behind(told, day(1), decide(1), sizes()), [[0], [-6], [0, 1, 1, 0, 30]])

    def test_one_that_is_refused_does_not_end_the_hearing(self):
        told = [paper(1)] + [decide(1)] * 30
        given = behind(told, day(1), decide(1), paper(2), revoke(1, 1), back(1), review())
        self.assertEqual(given, [[0], [-6], [0, 2], [0, 1], [0], [0]])

    def test_out_of_range_is_looked_at_before_full(self):
        told = [decide(1)] * 30
        self.assertEqual(behind(told, decide(0), decide(1, 10000), decide(1)), [[-2], [-2], [-6]])

    def test_nothing_but_hearing_is_shut_by_it(self):
        given = run(paper(1), decide(1), decide(2), stands(1), proof(1), review(), day(0), day(1))
        self.assertEqual(given[2:], [[0, 2, 0], [0, 1], [0, 1, 1, 0, 1], [0], [0], [0]])


class Review(unittest.TestCase):
    def test_nothing_decided(self):
        self.assertEqual(run(review(), paper(1), day(3), revoke(1, 1), review()), [[0], [0, 1], [0], [0, 1], [0]])

    def test_one_that_does_not_change(self):
        told = [paper(1), paper(2, 0, 50, ON_ONE), decide(2, 5), decide(2, 51), decide(7, 5), day(3), paper(3), revoke(1, 3),
                revoke(2, 1, 6), day(5), back(1)]
        self.assertEqual(behind(told, review()), [[0]])

    def test_on_the_day_itself_nothing_is_told(self):
        self.assertEqual(behind([paper(1), decide(1)], review(), day(4), review()), [[0], [0], [0]])

    def test_by_a_paper_heard_later(self):
        told = [paper(2, 0, 50, ON_ONE), decide(2, 5), decide(1, 5), decide(3, 5), day(3), paper(1), day(6)]
        self.assertEqual(behind(told, review()), [[0, 1, 3, 1, 2, 3, 1]])

    def test_by_a_revocation(self):
        told = [paper(1), paper(2, 0, 50, ON_ONE), day(2), decide(2, 5), decide(2, 4), day(3), revoke(1, 1, 5), day(9)]
        self.assertEqual(behind(told, review()), [[0, 1, 3, 0]])

    def test_by_one_taken_back(self):
        told = [paper(1), revoke(1, 1), day(2), decide(1, 5), day(3), back(1), day(9)]
        self.assertEqual(behind(told, review()), [[0, 1, 3, 1]])

    def test_another_one_and_today_again_as_it_was(self):
        told = [paper(1), decide(1, 5), day(3), revoke(1, 1), review(), day(4), review(), day(5), back(1), review(), day(9)]
        self.assertEqual([run(*told)[place] for place in (4, 6, 9)], [[0, 1, 3, 0], [0, 1, 3, 0], [0, 1, 3, 1]])
        self.assertEqual(behind(told, review()), [[0, 1, 3, 1]])

    def test_one_that_did_not_stand_and_does_not_again(self):
        told = [decide(1, 5), day(3), paper(1), day(5), revoke(1, 1)]
        self.assertEqual(behind(told, review()), [[0, 1, 3, 0]])

    def test_one_that_changes_twice(self):
        told = [paper(1), decide(1, 5), day(3), revoke(1, 1), day(5), back(1), day(7), revoke(2, 1)]
        self.assertEqual(behind(told, review(), day(9), back(2), review()), [[0, 1, 3, 0], [0], [0], [0, 1, 3, 1]])

    def test_the_first_day_is_not_that_of_something_else(self):
        told = [paper(1), decide(1, 5), day(2), paper(3), day(4), revoke(2, 1, 6), day(6), revoke(1, 1, 5), day(8),
                revoke(3, 1, 0)]
        self.assertEqual(behind(told, review()), [[0, 1, 6, 0]])

    def test_the_first_day_is_the_least_one_whatever_else_is_heard_later(self):
        told = [day(3), paper(1), decide(1, 5), day(9), revoke(1, 1), day(16), paper(2), day(32), paper(3), day(40), paper(4)]
        self.assertEqual(behind(told, review()), [[0, 1, 9, 0]])

    def test_several_decisions_on_one_day(self):
        told = [paper(1), paper(2), decide(2, 5), decide(1, 5), decide(1, 4), decide(2, 9), decide(1, 5), day(3),
                revoke(1, 1, 5), day(6), revoke(2, 2, 9)]
        self.assertEqual(behind(told, review()), [[0, 2, 3, 0, 4, 6, 0, 5, 3, 0]])

    def test_in_the_order_of_deciding(self):
        told = [paper(1), paper(2), decide(2), decide(1), day(3), revoke(1, 1), day(5), revoke(2, 2)]
        self.assertEqual(behind(told, review()), [[0, 1, 5, 0, 2, 3, 0]])

    def test_decisions_of_several_days_are_held_against_their_own(self):
        told = [paper(1), decide(1, 5), day(3), revoke(1, 1), decide(1, 5), day(5), back(1), day(6), decide(1, 5)]
        self.assertEqual(behind(told, review()), [[0, 1, 3, 1, 2, 5, 1]])

    def test_what_was_heard_before_on_the_day_of_the_decision_does_not_count(self):
        told = [paper(1), day(3), revoke(1, 1), decide(1, 5), day(4)]
        self.assertEqual(behind(told, review()), [[0]])

    def test_taken_back_on_the_day_of_hearing_it_changes_nothing(self):
        told = [paper(1), decide(1, 5), day(3), revoke(1, 1), back(1), day(4)]
        self.assertEqual(behind(told, review()), [[0]])

    def test_on_the_very_next_day_and_on_the_last_one(self):
        self.assertEqual(behind([paper(1), decide(1), day(1), revoke(1, 1)], review()), [[0, 1, 1, 0]])
        self.assertEqual(behind([paper(1), day(9998), decide(1), day(9999), revoke(1, 1)], review()), [[0, 1, 9999, 0]])

    def test_decided_again_on_the_day_of_the_change(self):
        told = [paper(1), decide(1), day(3), revoke(1, 1), decide(1)]
        self.assertEqual(behind(told, review()), [[0, 1, 3, 0]])

    def test_through_rests_on_a_first_day(self):
        told = [paper(1), paper(2, 20, 90, ground((1, 1))), decide(2, 70), decide(2, 20), day(3), revoke(1, 1, 21), day(4),
                revoke(2, 1, 20)]
        self.assertEqual(behind(told, review()), [[0, 1, 4, 0, 2, 4, 0]])

    def test_thirty_decisions(self):
        told = [paper(1)] + [decide(1, d) for d in range(30)] + [day(2), revoke(1, 1, 15), day(4), revoke(2, 1, 10)]
        wanted = [0]
        for number in range(11, 31):
            wanted += [number, 2 if number > 15 else 4, 0]
        self.assertEqual(behind(told, review()), [wanted])

    def test_asking_twice_answers_the_same(self):
        told = [paper(1), decide(1), day(3), revoke(1, 1)]
        self.assertEqual(behind(told, review(), review()), [[0, 1, 3, 0]] * 2)


if __name__ == "__main__":
    unittest.main()
