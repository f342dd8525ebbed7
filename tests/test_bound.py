"""bound: the greatest set of goals that are apart."""

import unittest

from leastpieces.apart import greatest_apart
from tests import reference
from tests.calling import HIGHEST, NINE, NOT_ALL, TEN, WORKED, ask, bound, held, least, load
from tests.spelling import covers, lists, pieces_of, text_of, words_text, woven_lists

# Each goal shares a piece with the one before and the one behind, the last one with the first.
RING = words_text("pa-xv", "pa-y", "b-y", "b-xu", "qa-xu", "cafx")


class Refusals(unittest.TestCase):
    def test_no_list_before_all_else(self):
        for m in (-HIGHEST, 0, 1, 4, 5, HIGHEST):
            self.assertEqual(ask(bound(m)), [[-1]])

    def test_lengths(self):
        for m in (-HIGHEST, -1, 0, 5, HIGHEST):
            self.assertEqual(held(WORKED, bound(m)), [[-3]])

    def test_more_than_9_goals(self):
        self.assertEqual(held(TEN, bound(1), bound(4)), [[-6]] * 2)

    def test_lengths_before_the_number_of_goals(self):
        self.assertEqual(held(TEN, bound(0), bound(5)), [[-3]] * 2)

    def test_a_refusal_leaves_what_is_held(self):
        self.assertEqual(ask(load(WORKED), bound(5), bound(4))[1:], [[-3], [3, 0, 1, 2]])


class Edges(unittest.TestCase):
    def test_worked_example(self):
        self.assertEqual(held(WORKED, bound(4)), [[3, 0, 1, 2]])

    def test_a_goal_without_a_piece_is_apart_from_all_others(self):
        self.assertEqual(held(WORKED, bound(2)), [[3, 0, 1, 2]])
        self.assertEqual(held(NOT_ALL, bound(1), bound(4)), [[3, 0, 1, 2]] * 2)
        self.assertEqual(held(words_text("yyyyy-yyyyyy"), bound(4)), [[1, 0]])
        # Goals 0 and 2 share b1, goal 1 has no piece.
        self.assertEqual(held(words_text("db-d-b-b"), least(1, 0), bound(1)), [[0, 0, 3], [2, 1, 2]])

    def test_no_goal(self):
        for text in ("margins 0 0 ;", "margins 0 0 ; word table ;", "margins 2 2 ; word a-bc ;"):
            self.assertEqual(held(text, bound(1), bound(4)), [[0]] * 2)

    def test_one_goal(self):
        self.assertEqual(held(words_text("a-b"), bound(4)), [[1, 0]])

    def test_nine_goals(self):
        self.assertEqual(held(NINE, *[bound(4)] * 19), [[9, 0, 1, 2, 3, 4, 5, 6, 7, 8]] * 19)
        self.assertEqual(held("margins 0 0 ; word a-a-a-a-a-a-a-a-a-a ;", bound(4)), [[1, 8]])

    def test_own_patterns_do_not_count(self):
        self.assertEqual(held(words_text("a-x", "a-y") + " pattern a2 ; pattern 1y ;", bound(1)), [[1, 1]])


class WhichOneIsTold(unittest.TestCase):
    def test_without_the_lowest_goal_comes_first(self):
        self.assertEqual(held(words_text("a-x", "a-y", "b-x", "b-y"), bound(1)), [[2, 1, 2]])
        self.assertEqual(held(words_text("a-x", "a-y"), bound(1)), [[1, 1]])

    def test_goals_are_compared_from_goal_0_on(self):
        # 0 2, 0 3, 1 3, 1 4 and 2 4 are as great.
        self.assertEqual(held(RING, bound(2)), [[2, 2, 4]])
        grid = words_text(*[row + "-" + column for row in "abc" for column in "xyz"])
        self.assertEqual(held(grid, bound(2)), [[3, 2, 4, 6]])

    def test_the_greatest_before_the_first(self):
        self.assertEqual(held(words_text("a-x", "b-y", "b-z"), bound(1)), [[2, 0, 2]])
        self.assertEqual(held(words_text("a-x", "a-y", "b-y"), bound(1)), [[2, 0, 2]])

    def test_below_the_least_set(self):
        answered = held(RING, bound(2), least(2, 0))
        self.assertEqual(answered, [[2, 2, 4], [1, 7, 3, 2, 5, 9]])

    def test_a_longer_length_brings_goals_together(self):
        text = words_text("abc-y", "abc-z", "xabcw")
        self.assertEqual(held(text, bound(2), bound(3)), [[2, 0, 1], [1, 1]])

    def test_pieces_that_cover_three_goals(self):
        self.assertEqual(greatest_apart(pieces_of([("a", [0, 1, 2]), ("b", [2, 3])]), 4), [1, 3])


class AgainstTheWords(unittest.TestCase):
    def test_covers(self):
        for count, drawn in covers():
            expected = reference.bound(drawn, count)
            self.assertEqual(greatest_apart(pieces_of(drawn), count), expected, drawn)

    def test_lists(self):
        for margins, words in lists() + woven_lists():
            for m in (1, 2, 3, 4):
                pieces = reference.family(margins, words, m)
                expected = reference.bound(pieces, len(reference.goals(margins, words)))
                text = text_of(margins, words)
                self.assertEqual(held(text, bound(m)), [[len(expected)] + expected], (text, m))


if __name__ == "__main__":
    unittest.main()
