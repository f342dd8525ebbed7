"""goals: gaps within the margins where words may be parted."""

import unittest

from tests.calling import GOALS, WORKED, ask, held


def goals(text):
    return held(text, GOALS)[0]


class Goals(unittest.TestCase):
    def test_worked_example(self):
        self.assertEqual(goals(WORKED), [3, 0, 2, 1, 2, 2, 4])

    def test_no_list(self):
        self.assertEqual(ask(GOALS), [[-1]])

    def test_no_word_and_no_break(self):
        self.assertEqual(goals("margins 0 0 ;"), [0])
        self.assertEqual(goals("margins 0 0 ; word table ; word cab ;"), [0])

    def test_by_words_then_by_gaps(self):
        text = "margins 0 0 ; word ab ; word a-bc-d ; word x-y ;"
        self.assertEqual(goals(text), [3, 1, 1, 1, 3, 2, 1])

    def test_left_margin(self):
        breaks = {0: [1, 2, 3, 4, 5], 1: [1, 2, 3, 4, 5], 2: [2, 3, 4, 5], 4: [4, 5], 5: [5]}
        for margin, gaps in breaks.items():
            told = goals(f"margins {margin} 0 ; word a-b-c-d-e-f ;")
            self.assertEqual(told, [len(gaps)] + [n for gap in gaps for n in (0, gap)])

    def test_right_margin(self):
        breaks = {0: [1, 2, 3, 4, 5], 1: [1, 2, 3, 4, 5], 2: [1, 2, 3, 4], 4: [1, 2], 5: [1]}
        for margin, gaps in breaks.items():
            told = goals(f"margins 0 {margin} ; word a-b-c-d-e-f ;")
            self.assertEqual(told, [len(gaps)] + [n for gap in gaps for n in (0, gap)])

    def test_margins_that_leave_no_gap(self):
        self.assertEqual(goals("margins 5 5 ; word a-b-c-d-e-f-g-h-i ;"), [0])
        self.assertEqual(goals("margins 5 5 ; word a-b-c-d-e-f-g-h-i-j ;"), [1, 0, 5])
        self.assertEqual(goals("margins 5 5 ; word a-b ;"), [0])

    def test_own_patterns_do_not_count(self):
        self.assertEqual(goals("margins 0 0 ; word a-b ; pattern a2b ; pattern 1a ;"), [1, 0, 1])

    def test_all_that_a_list_may_have(self):
        words = ["-".join("a" * 15 + chr(97 + number)) for number in range(24)]
        told = goals("margins 0 0 ; " + " ".join(f"word {word} ;" for word in words))
        expected = [number for word in range(24) for gap in range(1, 16) for number in (word, gap)]
        self.assertEqual(told, [360] + expected)


if __name__ == "__main__":
    unittest.main()
