"""The interface: calls and answers in one list each, on an object of their own."""

import unittest

from leastpieces.pieces import answers
from tests.calling import GOALS, WORKED, family, load, piece


class Interface(unittest.TestCase):
    def test_each_answer_has_its_count_before_it(self):
        calls = GOALS + load(WORKED) + GOALS + family(2) + family(0) + piece(4, 3) + load("")
        told = [1, -1, 3, 1, 3, 0, 7, 3, 0, 2, 1, 2, 2, 4, 4, 3, 2, 2, 4, 1, -3]
        self.assertEqual(answers(calls), told + [6, 3, 99, 97, 49, 1, 1, 3, 0, 3, 0])

    def test_one_call(self):
        self.assertEqual(answers([1]), [1, -1])
        self.assertEqual(answers([2, 4]), [1, -1])
        self.assertEqual(answers([3, 4, 0]), [1, -1])
        self.assertEqual(answers([0, 0]), [3, 0, 3, 0])

    def test_twenty_calls(self):
        self.assertEqual(answers(load(WORKED) + family(4) * 19), [3, 1, 3, 0] + [4, 11, 3, -1, 0] * 19)

    def test_whole_numbers_alone(self):
        calls = load(WORKED) + GOALS + family(4) + piece(4, 3) + piece(4, 99) + load("!")
        told = answers(calls)
        self.assertIs(type(told), list)
        self.assertEqual({type(number) for number in told}, {int})

    def test_what_is_handed_in_is_not_changed(self):
        calls = load(WORKED) + GOALS + family(4) + piece(4, 3) + load("!")
        before = list(calls)
        answers(calls)
        self.assertEqual(calls, before)

    def test_nothing_is_changed_for_a_while_either(self):
        class Watched(list):
            def refuse(self, *ignored):
                raise AssertionError("the list handed in is changed")
            append = extend = insert = pop = remove = clear = reverse = sort = refuse
            __setitem__ = __delitem__ = __iadd__ = __imul__ = refuse

        calls = load(WORKED) + GOALS + family(4) + piece(4, 3)
        self.assertEqual(answers(Watched(calls)), answers(calls))

    def test_a_second_time_knows_nothing_of_the_first(self):
        calls = load(WORKED) + family(4)
        first = answers(calls)
        self.assertEqual(answers(GOALS + family(4) + piece(4, 3)), [1, -1, 1, -1, 1, -1])
        self.assertEqual(answers(calls), first)

    def test_what_is_answered_is_the_callers_own(self):
        calls = load(WORKED) + GOALS
        first = answers(calls)
        kept = list(first)
        first.clear()
        self.assertEqual(answers(calls), kept)


if __name__ == "__main__":
    unittest.main()
