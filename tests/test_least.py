"""least: the least set by kind 0 and by kind 1, and how it is told."""

import unittest

from leastpieces.choices import least_set
from tests import reference
from tests.calling import HIGHEST, NINE, NOT_ALL, TEN, WORKED, ask, chunks_of, held, least, load, named
from tests.spelling import covers, pieces_of, text_of, words_text, woven_lists

GRID = words_text(*[row + "-" + column for row in "abc" for column in "xyz"])


class Refusals(unittest.TestCase):
    def test_no_list_before_all_else(self):
        for m, k in ((4, 0), (0, 0), (5, 2), (4, -1), (HIGHEST, HIGHEST), (-HIGHEST, -HIGHEST)):
            self.assertEqual(ask(least(m, k)), [[-1]])

    def test_lengths_before_the_kind(self):
        for m in (-HIGHEST, -1, 0, 5, HIGHEST):
            self.assertEqual(held(WORKED, least(m, 0), least(m, 1), least(m, 2), least(m, -HIGHEST)), [[-3]] * 4)

    def test_lengths_before_the_number_of_goals(self):
        self.assertEqual(held(TEN, least(0, 0), least(5, 2)), [[-3]] * 2)

    def test_more_than_9_goals_before_the_kind(self):
        self.assertEqual(held(TEN, least(1, 0), least(4, 1), least(4, 2), least(1, -HIGHEST)), [[-6]] * 4)

    def test_kinds(self):
        for k in (-HIGHEST, -1, 2, 3, HIGHEST):
            self.assertEqual(held(WORKED, least(1, k), least(4, k)), [[-4]] * 2)

    def test_a_wrong_kind_where_a_goal_has_no_piece(self):
        self.assertEqual(held(NOT_ALL, least(4, 2), least(4, -1)), [[-4]] * 2)
        self.assertEqual(held(WORKED, least(2, 2)), [[-4]])

    def test_a_wrong_kind_where_there_is_no_goal(self):
        self.assertEqual(held("margins 0 0 ;", least(1, 2)), [[-4]])

    def test_a_refusal_leaves_what_is_held(self):
        answered = ask(load(WORKED), least(0, 0), least(4, 2), least(4, 0))
        self.assertEqual(answered[1:], [[-3], [-4], [1, 12, 3, 0, 3, 9]])


class Edges(unittest.TestCase):
    def test_worked_example(self):
        self.assertEqual(held(WORKED, least(2, 0), least(4, 0)), [[0, 2, 4], [1, 12, 3, 0, 3, 9]])
        self.assertEqual(held(WORKED, least(2, 1), least(4, 1)), [[0, 2, 4], [1, 12, 3, 0, 3, 9]])

    def test_no_goal(self):
        for text in ("margins 0 0 ;", "margins 0 0 ; word table ;", "margins 2 2 ; word a-bc ;"):
            self.assertEqual(held(text, least(1, 0), least(4, 1)), [[1, 0, 0]] * 2)

    def test_one_goal(self):
        self.assertEqual(held(words_text("a-b"), least(4, 0), least(4, 1)), [[1, 2, 1, 0]] * 2)

    def test_the_first_goal_without_a_piece(self):
        self.assertEqual(held(NOT_ALL, least(4, 0), least(4, 1)), [[0, 1, 5]] * 2)
        self.assertEqual(held(words_text("yyyyy-yyyyyy"), least(1, 0)), [[0, 0, 5]])

    def test_nine_goals(self):
        expected = [1, 18, 9, 0, 12, 26, 41, 56, 70, 85, 100, 114]
        self.assertEqual(held(NINE, *[least(4, number % 2) for number in range(19)]), [expected] * 19)
        self.assertEqual(named(NINE, 4, least(4, 0)), (18, [letter + "1" for letter in "abcdefghi"]))

    def test_nine_goals_that_share_pieces(self):
        self.assertEqual(named(GRID, 4, least(4, 0)), (6, ["a1", "b1", "c1"]))
        self.assertEqual(held("margins 0 0 ; word a-a-a-a-a-a-a-a-a-a ;", least(4, 0)), [[1, 2, 1, 0]])

    def test_own_patterns_do_not_count(self):
        self.assertEqual(held(WORKED + " pattern ca2 ; pattern ta1 ;", least(4, 0)), [[1, 12, 3, 0, 3, 9]])


class Kinds(unittest.TestCase):
    def test_fewest_pieces_or_fewest_bytes(self):
        text = words_text("abc-y", "abc-z", "xabcw")
        self.assertEqual(held(text, least(3, 0), least(3, 1)), [[1, 5, 1, 4], [1, 4, 2, 0, 7]])
        self.assertEqual(named(text, 3, least(3, 0)), (5, [".abc1"]))
        self.assertEqual(named(text, 3, least(3, 1)), (4, ["1y", "1z"]))

    def test_as_many_bytes_and_fewer_pieces(self):
        text = words_text("bc-y", "bc-z", "xbcw")
        self.assertEqual(named(text, 2, least(2, 0)), (4, [".bc1"]))
        self.assertEqual(named(text, 2, least(2, 1)), (4, [".bc1"]))

    def test_as_many_pieces_and_fewer_bytes(self):
        text = words_text("c-y", "c-z", "d-z", "acw")
        self.assertEqual(named(text, 1, least(1, 0)), (4, ["1y", "1z"]))
        self.assertEqual(named(text, 1, least(1, 1)), (4, ["1y", "1z"]))


class HowItIsTold(unittest.TestCase):
    def test_the_first_of_several(self):
        self.assertEqual(named(words_text("a-x", "a-y", "b-x", "b-y"), 1, least(1, 0)), (4, ["a1", "b1"]))
        self.assertEqual(named(words_text("a-c", "a-d", "b-c"), 1, least(1, 0)), (4, ["a1", "1c"]))
        self.assertEqual(named(words_text("a-c", "a-d", "b-c"), 1, least(1, 1)), (4, ["a1", "1c"]))

    def test_by_the_lowest_goal_and_not_by_number(self):
        text = words_text("b-b-c-a-b")
        self.assertEqual(held(text, least(1, 0), least(1, 1)), [[1, 6, 3, 0, 4, 2]] * 2)
        self.assertEqual(named(text, 1, least(1, 0)), (6, ["b1", "c1", "1b"]))

    def test_a_used_piece_in_an_earlier_ones_place(self):
        self.assertEqual(held(words_text("d-db"), least(1, 0), least(1, 1)), [[1, 2, 1, 1]] * 2)

    def test_a_place_that_an_earlier_one_leaves_comes_first(self):
        # 1aa stands where .ac1 stood, ahead of c1a, which would do as well.
        text = words_text("ac-a-a", "bccc-a", "abacc")
        self.assertEqual([chunk for chunk, covered in chunks_of(text, 2)][:3], [".ac1", "c1a", "1aa"])
        for k in (0, 1):
            self.assertEqual(held(text, least(2, k)), [[1, 6, 2, 2, 4]])
            self.assertEqual(named(text, 2, least(2, k)), (6, ["1aa", "1a."]))

    def test_used_pieces_are_gone_through_in_order(self):
        drawn = [("aaa", [0]), ("bb", [0, 1]), ("cc", [0]), ("dd", [1, 2]), ("ee", [2])]
        self.assertEqual(least_set(pieces_of(drawn), 3, 0).numbers, [2, 3])
        self.assertEqual(least_set(pieces_of(drawn), 3, 1).numbers, [2, 3])

    def test_a_piece_may_cover_goals_that_are_covered(self):
        drawn = [("a", [0, 1]), ("b", [1, 2]), ("cccc", [2])]
        self.assertEqual(least_set(pieces_of(drawn), 3, 0).numbers, [0, 1])


class AgainstTheWords(unittest.TestCase):
    """Each way to tell a set is gone through, and the least one of all taken."""

    def test_covers(self):
        for count, drawn in covers():
            pieces = pieces_of(drawn)
            told = [(piece.chunk, piece.covered) for piece in pieces]
            for kind in (0, 1):
                choice = least_set(pieces, count, kind)
                expected = reference.least(told, count, kind)
                self.assertEqual([pieces[number].chunk for number in choice.numbers], expected, drawn)
                self.assertEqual(choice.size, reference.size_of(expected), drawn)

    def test_lists(self):
        exact = 0
        for margins, words in woven_lists():
            text = text_of(margins, words)
            count = len(reference.goals(margins, words))
            for m in (1, 2, 3):
                pieces = reference.family(margins, words, m)
                if reference.is_exact(pieces, count):
                    exact += 1
                    for k in (0, 1):
                        expected = reference.least(pieces, count, k)
                        self.assertEqual(named(text, m, least(m, k)), (reference.size_of(expected), expected), text)
                else:
                    expected = [0] + reference.first_uncovered(margins, words, m)
                    self.assertEqual(held(text, least(m, 0), least(m, 1)), [expected] * 2, text)
        self.assertGreater(exact, 100)


if __name__ == "__main__":
    unittest.main()
