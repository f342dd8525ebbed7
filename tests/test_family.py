"""family: how many pieces there are, how many are used, and the first goal that none covers."""

import unittest

from leastpieces.family import used_pieces
from tests import reference
from tests.calling import GOALS, HIGHEST, NINE, TEN, WORKED, ask, chunks_of, family, held, load
from tests.spelling import lists, pieces_of, text_of


def names(text, m):
    return [chunk for chunk, covered in chunks_of(text, m)]


def told(text, m):
    return held(text, family(m))[0]


class Refusals(unittest.TestCase):
    def test_no_list_before_all_else(self):
        for m in (-HIGHEST, 0, 1, 4, 5, HIGHEST):
            self.assertEqual(ask(family(m)), [[-1]])

    def test_lengths(self):
        for m in (-HIGHEST, -1, 0, 5, 6, HIGHEST):
            self.assertEqual(told(WORKED, m), [-3])
        for m in (1, 2, 3, 4):
            self.assertGreaterEqual(told(WORKED, m)[0], 0)

    def test_more_than_9_goals(self):
        self.assertGreater(told(NINE, 1)[0], 0)
        self.assertEqual(told(TEN, 1), [-6])
        self.assertEqual(told(TEN, 4), [-6])

    def test_length_before_the_number_of_goals(self):
        self.assertEqual(told(TEN, 0), [-3])
        self.assertEqual(told(TEN, 5), [-3])

    def test_breaks_outside_the_margins_are_no_goals(self):
        self.assertGreater(told("margins 2 0 ; word a-b-c-d-e-f-g-h-i-j-k ;", 1)[0], 0)

    def test_a_refusal_leaves_what_is_held(self):
        answered = ask(load(TEN), family(1), load(WORKED), family(0), GOALS, family(2))
        self.assertEqual(answered[4:], [[3, 0, 2, 1, 2, 2, 4], [3, 2, 2, 4]])


class Families(unittest.TestCase):
    def test_worked_example(self):
        self.assertEqual(held(WORKED, family(2), family(4)), [[3, 2, 2, 4], [11, 3, -1, 0]])
        self.assertEqual(names(WORKED, 2), [".ta1", "ca1", ".ca1"])

    def test_no_goal(self):
        for text in ("margins 0 0 ;", "margins 0 0 ; word table ;", "margins 2 2 ; word a-bc ;"):
            self.assertEqual(told(text, 4), [0, 0, -1, 0])

    def test_order_around_one_goal(self):
        expected = ["a1", ".a1", "1b", "1b.", "a1b", ".a1b", "a1b.", ".a1b."]
        self.assertEqual(names("margins 0 0 ; word a-b ;", 2), expected)
        self.assertEqual(names("margins 0 0 ; word a-b ;", 4), expected)
        self.assertEqual(names("margins 0 0 ; word a-b ;", 1), expected[:4])

    def test_order_by_length_then_by_place(self):
        expected = ["c1", "1d", "bc1", "c1d", "1de", "abc1", ".abc1", "bc1d", "c1de", "1def", "1def."]
        self.assertEqual(names("margins 0 0 ; word abc-def ;", 3), expected)

    def test_each_piece_once_where_it_comes_first(self):
        text = "margins 0 0 ; word a-b ; word a-bc ;"
        expected = ["a1", ".a1", "1b", "1b.", "a1b", ".a1b", "a1b.", ".a1b.", "1bc", "1bc.", "a1bc", ".a1bc"]
        self.assertEqual(names(text, 3), expected + ["a1bc.", ".a1bc."])

    def test_length_four_is_the_longest_piece(self):
        chunks = names("margins 0 0 ; word abcde-fghij ;", 4)
        self.assertIn("bcde1", chunks)
        self.assertIn("1fghi", chunks)
        self.assertEqual(max(map(len, chunks)), 5)

    def test_a_piece_that_parts_where_a_word_may_not_be_is_not_good(self):
        self.assertNotIn("a1", names("margins 0 0 ; word a-b ; word xay ;", 1))
        self.assertIn(".a1", names("margins 0 0 ; word a-b ; word xay ;", 1))
        self.assertNotIn("a1", names("margins 0 0 ; word a-ba ; word ac ;", 1))

    def test_a_piece_may_be_wrong_in_its_own_word(self):
        self.assertEqual(names("margins 0 0 ; word a-bab ;", 2), [".a1", ".a1b", "1ba"])

    def test_a_piece_outside_the_margins_is_never_wrong(self):
        self.assertIn("a1", names("margins 1 1 ; word a-b ; word ba ;", 1))
        self.assertIn("a1", names("margins 2 0 ; word ba-b ; word ab ;", 1))
        self.assertIn("a1", names("margins 0 2 ; word a-bc ; word bac ;", 1))
        self.assertNotIn("a1", names("margins 0 1 ; word a-bc ; word bac ;", 1))

    def test_a_break_outside_the_margins_has_no_pieces_of_its_own(self):
        self.assertEqual(names("margins 2 0 ; word a-bc-d ;", 1), ["c1", "1d", "1d."])

    def test_points_hold_a_piece_at_its_end(self):
        self.assertEqual(names("margins 0 0 ; word ab-ab ; word ba-ba ;", 1), [])
        self.assertEqual(names("margins 0 0 ; word b-a ; word ab ; word bb ;", 1), ["1a", "1a."])
        self.assertEqual(names("margins 0 0 ; word b-a ; word bab ; word bb ;", 1), ["1a."])

    def test_own_patterns_do_not_count(self):
        self.assertEqual(told(WORKED + " pattern ca2 ; pattern ta1 ;", 4), [11, 3, -1, 0])

    def test_a_longer_length_has_the_shorter_ones_pieces(self):
        for m in (1, 2, 3):
            longer = names(WORKED, m + 1)
            self.assertEqual([chunk for chunk in names(WORKED, m) if chunk not in longer], [])


class Used(unittest.TestCase):
    def test_pieces_that_cover_the_same_goals(self):
        self.assertEqual(told("margins 0 0 ; word a-b ;", 4), [8, 1, -1, 0])
        self.assertEqual(told("margins 0 0 ; word a-b ; word c-d ;", 4), [16, 2, -1, 0])

    def test_overlapping_covers_are_not_the_same(self):
        text = "margins 0 0 ; word a-b ; word a-c ;"
        covers = dict(chunks_of(text, 1))
        self.assertEqual(covers, {"a1": [0, 1], ".a1": [0, 1], "1b": [0], "1b.": [0], "1c": [1], "1c.": [1]})
        self.assertEqual(told(text, 1), [6, 3, -1, 0])

    def test_the_fewest_bytes_then_the_first_at_the_first_ones_stead(self):
        covers = [("aa", [0]), ("b", [0, 1]), ("cc", [0, 1]), ("d", [0]), ("e", [0]), ("ff", [1]), ("gg", [1])]
        self.assertEqual(used_pieces(pieces_of(covers)), [3, 1, 5])
        self.assertEqual(used_pieces([]), [])


class FirstUncovered(unittest.TestCase):
    def test_all_covered(self):
        self.assertEqual(told("margins 0 0 ; word a-b ;", 1)[2:], [-1, 0])

    def test_some_covered(self):
        text = "margins 0 0 ; word xx-xx ; word a-b ; word y-yyy ;"
        self.assertEqual(told(text, 1)[2:], [0, 2])
        self.assertEqual(told("margins 0 0 ; word a-b ; word cxx-xxxxx-xx ;", 1)[2:], [1, 3])
        self.assertEqual(told("margins 0 0 ; word a-b ; word y-yyy ;", 1)[2:], [-1, 0])
        self.assertEqual(told("margins 0 0 ; word a-b ; word yyyyy-yyyyyy ;", 4), [8, 1, 1, 5])

    def test_none_covered(self):
        self.assertEqual(told("margins 0 0 ; word yyyyy-yyyyyy ;", 4), [0, 0, 0, 5])


class AgainstTheWords(unittest.TestCase):
    """Many lists, each answer held against the document's words told in another way."""

    def test_families(self):
        for margins, words in lists():
            text = text_of(margins, words)
            for m in (1, 2, 3, 4):
                expected = reference.family(margins, words, m)
                self.assertEqual(chunks_of(text, m), expected, (text, m))
                answer = [len(expected), len(reference.used(expected))]
                answer += reference.first_uncovered(margins, words, m)
                self.assertEqual(told(text, m), answer, (text, m))

    def test_goals(self):
        for margins, words in lists():
            expected = reference.goals(margins, words)
            answer = [len(expected)] + [number for goal in expected for number in goal]
            self.assertEqual(held(text_of(margins, words), GOALS)[0], answer)

    def test_exact_sets_part_each_word_just_at_its_goals(self):
        exact = 0
        for margins, words in lists():
            text = text_of(margins, words)
            if told(text, 4)[2:] == [-1, 0]:
                exact += 1
                goals = reference.goals(margins, words)
                for number, word in enumerate(words):
                    gaps = [gap for at, gap in goals if at == number]
                    self.assertEqual(reference.parted(margins, names(text, 4), word), gaps, text)
        self.assertGreater(exact, 10)


if __name__ == "__main__":
    unittest.main()
