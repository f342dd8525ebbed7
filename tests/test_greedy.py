"""greedy: the set that comes greedily."""

import unittest

from leastpieces.choices import greedy_set
from leastpieces.family import used_pieces
from tests import reference
from tests.calling import HIGHEST, NINE, NOT_ALL, TEN, WORKED, ask, greedy, held, least, load, named
from tests.spelling import covers, pieces_of, text_of, words_text, woven_lists


class Refusals(unittest.TestCase):
    def test_no_list_before_all_else(self):
        for m in (-HIGHEST, 0, 1, 4, 5, HIGHEST):
            self.assertEqual(ask(greedy(m)), [[-1]])

    def test_lengths(self):
        for m in (-HIGHEST, -1, 0, 5, HIGHEST):
            self.assertEqual(held(WORKED, greedy(m)), [[-3]])

    def test_more_than_9_goals(self):
        self.assertEqual(held(TEN, greedy(1), greedy(4)), [[-6]] * 2)

    def test_lengths_before_the_number_of_goals(self):
        self.assertEqual(held(TEN, greedy(0), greedy(5)), [[-3]] * 2)

    def test_a_refusal_leaves_what_is_held(self):
        self.assertEqual(ask(load(WORKED), greedy(5), greedy(4))[1:], [[-3], [1, 12, 3, 0, 3, 9]])


class Edges(unittest.TestCase):
    def test_worked_example(self):
        self.assertEqual(held(WORKED, greedy(2), greedy(4)), [[0, 2, 4], [1, 12, 3, 0, 3, 9]])

    def test_no_goal(self):
        for text in ("margins 0 0 ;", "margins 0 0 ; word table ;", "margins 2 2 ; word a-bc ;"):
            self.assertEqual(held(text, greedy(1), greedy(4)), [[1, 0, 0]] * 2)

    def test_one_goal(self):
        self.assertEqual(held(words_text("a-b"), greedy(4)), [[1, 2, 1, 0]])

    def test_the_first_goal_without_a_piece(self):
        self.assertEqual(held(NOT_ALL, greedy(1), greedy(4)), [[0, 1, 5]] * 2)

    def test_nine_goals(self):
        expected = [1, 18, 9, 0, 12, 26, 41, 56, 70, 85, 100, 114]
        self.assertEqual(held(NINE, *[greedy(4)] * 19), [expected] * 19)

    def test_own_patterns_do_not_count(self):
        self.assertEqual(held(WORKED + " pattern ca2 ; pattern ta1 ;", greedy(4)), [[1, 12, 3, 0, 3, 9]])


class HowItComes(unittest.TestCase):
    def test_more_pieces_than_the_least_set(self):
        text = "margins 1 0 ; word ab-a-a-b ; word b-b ;"
        self.assertEqual(held(text, greedy(1), least(1, 0)), [[1, 7, 3, 0, 1, 2], [1, 5, 2, 1, 2]])
        self.assertEqual(named(text, 1, greedy(1)), (7, ["b1", "1a", "1b."]))

    def test_the_first_of_several_need_not_be_a_used_one(self):
        text = words_text("d-db")
        self.assertEqual(held(text, greedy(1), least(1, 0)), [[1, 3, 1, 0], [1, 2, 1, 1]])
        self.assertEqual(named(text, 1, greedy(1)), (3, [".d1"]))

    def test_as_many_goals_and_fewer_bytes_do_not_count(self):
        self.assertEqual(named(words_text("c-y", "c-z", "d-z", "acw"), 1, greedy(1)), (5, [".c1", "1z"]))

    def test_the_most_goals_first_and_in_the_order_in_which_they_were_taken(self):
        text = words_text("b-a-a-ba")
        self.assertEqual(held(text, greedy(1)), [[1, 5, 2, 1, 0]])
        self.assertEqual(named(text, 1, greedy(1)), (5, ["a1", ".b1"]))

    def test_only_goals_not_covered_yet_count(self):
        drawn = [("a", [0, 1, 2]), ("b", [0, 1, 3]), ("c", [3, 4])]
        self.assertEqual(greedy_set(pieces_of(drawn)).numbers, [0, 2])

    def test_till_none_covers_any(self):
        drawn = [("a", [1]), ("b", [0, 1]), ("c", [0])]
        self.assertEqual(greedy_set(pieces_of(drawn)).numbers, [1])
        self.assertEqual(greedy_set([]).numbers, [])


class AgainstTheWords(unittest.TestCase):
    def test_covers(self):
        unused = 0
        for count, drawn in covers():
            pieces = pieces_of(drawn)
            expected = reference.greedy([(piece.chunk, piece.covered) for piece in pieces])
            choice = greedy_set(pieces)
            self.assertEqual([pieces[number].chunk for number in choice.numbers], expected, drawn)
            self.assertEqual(choice.size, reference.size_of(expected), drawn)
            used = used_pieces(pieces)
            unused += any(number not in used for number in choice.numbers)
        self.assertGreater(unused, 20)

    def test_lists(self):
        for margins, words in woven_lists():
            text = text_of(margins, words)
            for m in (1, 2, 3, 4):
                pieces = reference.family(margins, words, m)
                if reference.is_exact(pieces, len(reference.goals(margins, words))):
                    expected = reference.greedy(pieces)
                    self.assertEqual(named(text, m, greedy(m)), (reference.size_of(expected), expected), text)
                else:
                    expected = [0] + reference.first_uncovered(margins, words, m)
                    self.assertEqual(held(text, greedy(m)), [expected], text)


if __name__ == "__main__":
    unittest.main()
