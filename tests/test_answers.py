"""The interface: calls and answers in one list each, on an object of their own."""

import unittest

from leastpieces.pieces import answers
from tests.calling import GOALS, HIGHEST, NINE, NOT_ALL, WORKED, ask, bound, check, family, greedy, held, least, load, piece

EACH = [GOALS, family(4), piece(4, 3), least(4, 0), least(4, 1), greedy(4), bound(4), check(4, [0, 3, 9]), check(4, [])]
TOLD = [
    [3, 0, 2, 1, 2, 2, 4], [11, 3, -1, 0], [3, 99, 97, 49, 1, 1], [1, 12, 3, 0, 3, 9], [1, 12, 3, 0, 3, 9],
    [1, 12, 3, 0, 3, 9], [3, 0, 1, 2], [1, 3], [0, 0, 2],
]


def joined(calls):
    return [number for call in calls for number in call]


class Interface(unittest.TestCase):
    def test_each_answer_has_its_count_before_it(self):
        calls = GOALS + load(WORKED) + GOALS + family(2) + family(0) + piece(4, 3) + load("")
        told = [1, -1, 3, 1, 3, 0, 7, 3, 0, 2, 1, 2, 2, 4, 4, 3, 2, 2, 4, 1, -3]
        self.assertEqual(answers(calls), told + [6, 3, 99, 97, 49, 1, 1, 3, 0, 3, 0])
        calls = load(WORKED) + check(4, [0, 3, 9]) + least(4, 0) + bound(4) + check(4, []) + greedy(2) + least(4, 2)
        told = [3, 1, 3, 0, 2, 1, 3, 6, 1, 12, 3, 0, 3, 9, 4, 3, 0, 1, 2, 3, 0, 0, 2, 3, 0, 2, 4, 1, -4]
        self.assertEqual(answers(calls), told)

    def test_one_call(self):
        self.assertEqual(answers([1]), [1, -1])
        self.assertEqual(answers([2, 4]), [1, -1])
        self.assertEqual(answers([3, 4, 0]), [1, -1])
        self.assertEqual(answers([0, 0]), [3, 0, 3, 0])
        self.assertEqual(answers([4, 4, 0]), [1, -1])
        self.assertEqual(answers([5, 4]), [1, -1])
        self.assertEqual(answers([6, 4]), [1, -1])
        self.assertEqual(answers([7, 4, 0]), [1, -1])
        self.assertEqual(answers([7, 4, 3, 1, 2, 3]), [1, -1])

    def test_the_worked_example_in_one_list(self):
        calls = [load(WORKED), GOALS, family(2), least(2, 0), family(4), least(4, 0), greedy(4), bound(4), piece(4, 3)]
        told = [[1, 3, 0], [3, 0, 2, 1, 2, 2, 4], [3, 2, 2, 4], [0, 2, 4], [11, 3, -1, 0], [1, 12, 3, 0, 3, 9]]
        told += [[1, 12, 3, 0, 3, 9], [3, 0, 1, 2], [3, 99, 97, 49, 1, 1], [1, 3], [0, 2, 4]]
        self.assertEqual(ask(*calls, check(4, [0, 3, 9]), check(4, [0, 3])), told)

    def test_in_any_order(self):
        for first in range(len(EACH)):
            self.assertEqual(held(WORKED, *EACH[first:], *EACH[:first]), TOLD[first:] + TOLD[:first])
        self.assertEqual(held(WORKED, *reversed(EACH)), TOLD[::-1])

    def test_rows_of_all_lengths_between_other_calls(self):
        for count in (0, 1, 2, 3, 7):
            answered = held(WORKED, check(4, [9] * count), GOALS, load(" " * count), check(4, [0, 3, 9]))
            self.assertEqual(answered, [[0, 0, 2], TOLD[0], [0, 3, count], [1, 3]])

    def test_numbers_of_a_row_are_not_calls(self):
        self.assertEqual(held(WORKED, check(4, [0, 1, 2, 3, 4, 5, 6, 7]), bound(4)), [[0, 2, 4], [3, 0, 1, 2]])

    def test_twenty_calls(self):
        self.assertEqual(answers(load(WORKED) + family(4) * 19), [3, 1, 3, 0] + [4, 11, 3, -1, 0] * 19)
        twice = EACH + EACH
        self.assertEqual(held(WORKED, *twice, GOALS), TOLD + TOLD + TOLD[:1])
        self.assertEqual(ask(*EACH, *EACH, GOALS, GOALS), [[-1]] * 20)

    def test_twenty_calls_with_nine_goals(self):
        told = held(NINE, *EACH, *EACH, check(4, [0, 12, 26, 41, 56, 70, 85, 100, 114]))
        self.assertEqual(told[:9], told[9:18])
        self.assertEqual([answer[0] for answer in told[:9]], [9, 126, 3, 1, 1, 1, 9, 0, 0])
        self.assertEqual(told[18], [1, 9])

    def test_a_goal_that_no_piece_covers(self):
        calls = [GOALS, family(4), piece(4, 0), least(4, 0), least(4, 1), greedy(4), bound(4), check(4, [0])]
        told = [[3, 0, 1, 1, 5, 2, 5], [8, 1, 1, 5], [2, 97, 49, 1, 0]] + [[0, 1, 5]] * 3 + [[3, 0, 1, 2], [0, 1, 5]]
        self.assertEqual(held(NOT_ALL, *calls), told)

    def test_as_many_numbers_as_there_may_be(self):
        calls = load(WORKED.ljust(1929)) + joined([check(4, [0, 3, 9] * 666 + [0, 3])] * 7)
        self.assertLessEqual(len(calls), 16000)
        self.assertEqual(answers(calls), [3, 1, 3, 0] + [2, 1, 2000] * 7)

    def test_the_highest_and_lowest_numbers(self):
        for number in (-HIGHEST, HIGHEST):
            calls = [family(number), piece(number, number), least(number, number), greedy(number), bound(number)]
            self.assertEqual(ask(*calls, check(number, [number])), [[-1]] * 6)
            self.assertEqual(held(WORKED, *calls, check(number, [number])), [[-3]] * 6)
            calls = [piece(4, number), least(4, number), check(4, [number])]
            self.assertEqual(held(WORKED, *calls), [[-2], [-4], [-4]])

    def test_whole_numbers_alone(self):
        told = answers(load(WORKED) + joined(EACH) + piece(4, 99) + least(2, 0) + greedy(2) + load("!"))
        self.assertIs(type(told), list)
        self.assertEqual({type(number) for number in told}, {int})

    def test_what_is_handed_in_is_not_changed(self):
        calls = load(WORKED) + joined(EACH) + piece(4, 99) + check(4, [99]) + load("!")
        before = list(calls)
        answers(calls)
        self.assertEqual(calls, before)

    def test_nothing_is_changed_for_a_while_either(self):
        class Watched(list):
            def refuse(self, *ignored):
                raise AssertionError("the list handed in is changed")
            append = extend = insert = pop = remove = clear = reverse = sort = refuse
            __setitem__ = __delitem__ = __iadd__ = __imul__ = refuse

            def __getitem__(self, place):
                found = list.__getitem__(self, place)
                return Watched(found) if isinstance(place, slice) else found

        calls = load(WORKED) + joined(EACH) + load("margins 0 0 ; word") + check(4, [9, 3, 0])
        self.assertEqual(answers(Watched(calls)), answers(calls))

    def test_a_second_time_knows_nothing_of_the_first(self):
        calls = load(WORKED) + joined(EACH)
        first = answers(calls)
        self.assertEqual(answers(joined(EACH)), [1, -1] * len(EACH))
        self.assertEqual(held("margins 0 0 ; word a-b ;", least(4, 0), bound(4)), [[1, 2, 1, 0], [1, 0]])
        self.assertEqual(answers(calls), first)

    def test_what_is_answered_is_the_callers_own(self):
        calls = load(WORKED) + joined(EACH)
        first = answers(calls)
        kept = list(first)
        first.clear()
        self.assertEqual(answers(calls), kept)


if __name__ == "__main__":
    unittest.main()
