"""check: whether pieces of the family are exact."""

import unittest

from tests import reference
from tests.calling import GOALS, HIGHEST, NINE, NOT_ALL, TEN, WORKED, ask, check, chunks_of, held, load
from tests.spelling import text_of, words_text, woven_lists


class Refusals(unittest.TestCase):
    def test_no_list_before_all_else(self):
        for m, numbers in ((4, []), (0, [0]), (5, [-1]), (HIGHEST, [HIGHEST])):
            self.assertEqual(ask(check(m, numbers)), [[-1]])

    def test_lengths_before_the_numbers(self):
        for m in (-HIGHEST, -1, 0, 5, HIGHEST):
            answered = held(WORKED, check(m, []), check(m, [0]), check(m, [-1]), check(m, [HIGHEST]))
            self.assertEqual(answered, [[-3]] * 4)

    def test_lengths_before_the_number_of_goals(self):
        self.assertEqual(held(TEN, check(0, []), check(5, [-1])), [[-3]] * 2)

    def test_more_than_9_goals_before_the_numbers(self):
        self.assertEqual(held(TEN, check(1, []), check(4, [0]), check(4, [-1])), [[-6]] * 3)

    def test_numbers_that_are_no_pieces(self):
        for m, count in ((2, 3), (4, 11)):
            for number in (-HIGHEST, -1, count, count + 1, HIGHEST):
                self.assertEqual(held(WORKED, check(m, [number])), [[-4]])
            self.assertEqual(held(WORKED, check(m, [count - 1]))[0][0], 0)

    def test_wherever_the_number_stands(self):
        for numbers in ([-1, 0, 3, 9], [0, 3, -1, 9], [0, 3, 9, -1], [0, 3, 9, 11], [0, 11], [11, 0]):
            self.assertEqual(held(WORKED, check(4, numbers)), [[-4]])

    def test_where_some_goal_has_no_piece(self):
        self.assertEqual(held(NOT_ALL, check(4, [0, 8]), check(4, [-1]), check(4, [8])), [[-4]] * 3)

    def test_where_there_is_no_piece(self):
        self.assertEqual(held("margins 0 0 ;", check(4, [0]), check(4, [-1])), [[-4]] * 2)

    def test_among_2000_numbers(self):
        self.assertEqual(held(WORKED, check(4, [0, 3, 9] * 666 + [0, 11])), [[-4]])

    def test_a_refusal_leaves_what_is_held(self):
        answered = ask(load(WORKED), check(5, [0]), check(4, [11]), check(4, [0, 3, 9]))
        self.assertEqual(answered[1:], [[-3], [-4], [1, 3]])


class Edges(unittest.TestCase):
    def test_worked_example(self):
        self.assertEqual(held(WORKED, check(4, [0, 3, 9]), check(4, [0, 3])), [[1, 3], [0, 2, 4]])

    def test_no_numbers(self):
        self.assertEqual(held(WORKED, check(4, []), check(2, [])), [[0, 0, 2]] * 2)
        for text in ("margins 0 0 ;", "margins 0 0 ; word table ;", "margins 2 2 ; word a-bc ;"):
            self.assertEqual(held(text, check(1, []), check(4, [])), [[1, 0]] * 2)

    def test_a_number_twice_counts_twice(self):
        self.assertEqual(held(WORKED, check(4, [0, 0, 3, 9]), check(4, [9, 3, 0, 9, 3, 0])), [[1, 4], [1, 6]])
        self.assertEqual(held(WORKED, check(4, [0, 0, 0])), [[0, 1, 2]])

    def test_in_any_order(self):
        self.assertEqual(held(WORKED, check(4, [9, 0, 3]), check(4, [3, 9, 0])), [[1, 3]] * 2)

    def test_2000_numbers(self):
        self.assertEqual(held(WORKED, check(4, [0, 3, 9, 10] * 500)), [[1, 2000]])
        self.assertEqual(held(WORKED, check(4, [0, 3, 3, 4] * 500)), [[0, 2, 4]])
        self.assertEqual(held(WORKED, check(4, [9] * 1998 + [3, 0])), [[1, 2000]])

    def test_one_goal(self):
        self.assertEqual(held(words_text("a-b"), check(4, [7]), check(4, [])), [[1, 1], [0, 0, 1]])

    def test_a_goal_that_no_piece_covers(self):
        self.assertEqual(held(NOT_ALL, check(4, range(8)), check(4, [])), [[0, 1, 5], [0, 0, 1]])

    def test_a_family_of_the_length(self):
        # Piece 1 is ca1 up to the length 2, and .ta1b up to the length 4.
        self.assertEqual(held(WORKED, check(2, [0, 1]), check(4, [0, 1])), [[0, 2, 4], [0, 1, 2]])

    def test_nine_goals(self):
        first = [0, 12, 26, 41, 56, 70, 85, 100, 114]
        answered = held(NINE, *[check(4, first)] * 18, check(4, first[:8]))
        self.assertEqual(answered, [[1, 9]] * 18 + [[0, 0, 9]])
        for left_out in range(9):
            numbers = [number for number in first if number != first[left_out]]
            self.assertEqual(held(NINE, check(4, numbers)), [[0, 0, left_out + 1]])

    def test_own_patterns_do_not_count(self):
        self.assertEqual(held(WORKED + " pattern stab1 ;", check(4, [0, 3])), [[0, 2, 4]])


class AgainstTheWords(unittest.TestCase):
    def test_lists(self):
        exact = 0
        for margins, words in woven_lists():
            text = text_of(margins, words)
            goals = reference.goals(margins, words)
            pieces = chunks_of(text, 2)
            for step in (1, 2, 3, 4, 5, 7):
                chosen = range(step - 1, len(pieces), step)
                covered = {goal for number in chosen for goal in pieces[number][1]}
                missing = [list(goal) for number, goal in enumerate(goals) if number not in covered]
                expected = [0] + missing[0] if missing else [1, len(chosen)]
                self.assertEqual(held(text, check(2, chosen)), [expected], (text, step))
                exact += not missing
        self.assertGreater(exact, 60)


class WhatIsHeld(unittest.TestCase):
    def test_check_changes_nothing(self):
        calls = [check(4, [0, 3, 9]), GOALS, check(4, [0]), GOALS, check(4, [0, 3, 9])]
        told = [3, 0, 2, 1, 2, 2, 4]
        self.assertEqual(held(WORKED, *calls), [[1, 3], told, [0, 1, 2], told, [1, 3]])


if __name__ == "__main__":
    unittest.main()
