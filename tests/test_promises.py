"""The document's promises 1 to 5, over many lists."""

import itertools
import re
import unittest

from tests import reference
from tests.calling import GOALS, NINE, WORKED, ask, bound, check, chunks_of, family, greedy, held, least, load, loaded
from tests.spelling import lists, text_of, words_text, woven_lists

SMALL = (
    ("margins 1 0 ; word ab-a-a-b ; word b-b ;", 1),
    (words_text("d-db"), 1),
    (words_text("a-b"), 2),
    (words_text("a-c", "a-d", "b-c"), 1),
    (words_text("c-y", "c-z", "d-z", "acw"), 1),
    (words_text("bc-y", "bc-z", "xbcw"), 2),
    (words_text("ac-a-a", "bccc-a", "abacc"), 2),
    ("margins 2 2 ; word ta-ble ; word ca-ble ; word stab-le ;", 4),
    (words_text(), 1),
)


def sets_told(text, m):
    """The numbers of each set that least and greedy tell, none where no set is exact."""
    answered = held(text, least(m, 0), least(m, 1), greedy(m))
    return [told[3:] for told in answered if told[0] == 1]


def subsets(count):
    for size in range(count + 1):
        yield from itertools.combinations(range(count), size)


def without_digits(chunk):
    return re.sub("[0-9]", "", chunk)


class Point1(unittest.TestCase):
    """With an exact set as the patterns each listed word is parted just at its goals."""

    def parted_just_at_goals(self, margins, words, chunks):
        goals = reference.goals(margins, words)
        for number, word in enumerate(words):
            gaps = [gap for at, gap in goals if at == number]
            self.assertEqual(reference.parted(margins, chunks, word), gaps, (words, chunks))

    def test_sets_that_are_told(self):
        held_as_patterns = 0
        for margins, words in lists() + woven_lists():
            text = text_of(margins, words)
            for m in (2, 4):
                names = [chunk for chunk, covered in chunks_of(text, m)]
                for numbers in sets_told(text, m):
                    chunks = [names[number] for number in numbers]
                    self.parted_just_at_goals(margins, words, chunks)
                    if len(set(map(without_digits, chunks))) == len(chunks):
                        held_as_patterns += 1
                        with_patterns = text + "".join(f" pattern {chunk} ;" for chunk in chunks)
                        self.assertEqual(loaded(with_patterns), [1, len(words), len(chunks)])
        self.assertGreater(held_as_patterns, 200)

    def test_sets_that_check_calls_exact(self):
        words = ["ac-a-a", "bccc-a", "abacc"]
        text = words_text(*words)
        names = [chunk for chunk, covered in chunks_of(text, 2)]
        exact = 0
        for numbers in subsets(len(names)):
            if held(text, check(2, numbers))[0][0] == 1:
                exact += 1
                self.parted_just_at_goals((0, 0), words, [names[number] for number in numbers])
        self.assertGreater(exact, 100)

    def test_a_list_may_not_hold_all(self):
        # 1a and a1 have the same letters, and so no list holds both.
        words = ["b-a", "a-c", "b-d"]
        names = [chunk for chunk, covered in chunks_of(words_text(*words), 1)]
        chunks = ["1a", "a1", "1d"]
        numbers = [names.index(chunk) for chunk in chunks]
        self.assertEqual(held(words_text(*words), check(1, numbers)), [[1, 3]])
        self.assertEqual(loaded(words_text(*words) + " pattern 1a ; pattern a1 ;")[:2], [0, 5])
        self.parted_just_at_goals((0, 0), words, chunks)


class Points2And3(unittest.TestCase):
    """No exact set is less than the least one, and none has fewer pieces than the bound."""

    def test_all_sets_that_check_calls_exact(self):
        for text, m in SMALL:
            pieces = chunks_of(text, m)
            sizes = []
            for numbers in subsets(len(pieces)):
                if held(text, check(m, numbers))[0][0] == 1:
                    sizes.append((len(numbers), sum(len(pieces[number][0]) for number in numbers)))
            few, small, apart = held(text, least(m, 0), least(m, 1), bound(m))
            self.assertEqual((few[2], few[1]), min(sizes), text)
            self.assertEqual((small[1], small[2]), min((size, count) for count, size in sizes), text)
            self.assertLessEqual(apart[0], min(sizes)[0], text)

    def test_all_sets_of_small_families(self):
        gone_through = 0
        for margins, words in lists() + woven_lists():
            text = text_of(margins, words)
            count = held(text, GOALS)[0][0]
            for m in (1, 2, 3):
                pieces = chunks_of(text, m)
                if len(pieces) > 12 or held(text, family(m))[0][2] != -1:
                    continue
                gone_through += 1
                chosen = [[pieces[number] for number in numbers] for numbers in subsets(len(pieces))]
                exact = [one for one in chosen if reference.is_exact(one, count)]
                sizes = [(len(one), sum(len(chunk) for chunk, covered in one)) for one in exact]
                few, small, apart = held(text, least(m, 0), least(m, 1), bound(m))
                self.assertEqual((few[2], few[1]), min(sizes), text)
                self.assertEqual((small[1], small[2]), min((size, number) for number, size in sizes), text)
                self.assertLessEqual(apart[0], min(sizes)[0], text)
        self.assertGreater(gone_through, 40)

    def test_goals_that_are_told_are_apart(self):
        for margins, words in lists() + woven_lists():
            text = text_of(margins, words)
            for m in (1, 4):
                apart = held(text, bound(m))[0][1:]
                for chunk, covered in chunks_of(text, m):
                    self.assertLessEqual(len(set(covered).intersection(apart)), 1, (text, chunk))


class Point4(unittest.TestCase):
    """Greedily comes an exact set wherever there is one."""

    def test_wherever_the_family_is_exact(self):
        answered = {0: 0, 1: 0}
        for margins, words in lists() + woven_lists():
            text = text_of(margins, words)
            for m in (1, 2, 3, 4):
                count, used, word, gap = held(text, family(m))[0]
                every, few, came = held(text, check(m, range(count)), least(m, 0), greedy(m))
                answered[came[0]] += 1
                if word == -1:
                    self.assertEqual(every, [1, count], text)
                    self.assertEqual(came[:1] + few[:1], [1, 1], text)
                    self.assertEqual(held(text, check(m, came[3:])), [[1, came[2]]], text)
                else:
                    self.assertEqual([every, few, came], [[0, word, gap]] * 3, text)
        self.assertGreater(min(answered.values()), 20)

    def test_sets_that_are_told_are_exact(self):
        for margins, words in lists() + woven_lists():
            text = text_of(margins, words)
            for numbers in sets_told(text, 3):
                self.assertEqual(held(text, check(3, numbers)), [[1, len(numbers)]], text)


class Point5(unittest.TestCase):
    """With a longer length the least set of kind 0 never has more pieces."""

    def test_lengths_1_to_4(self):
        fewer = 0
        texts = [text_of(margins, words) for margins, words in lists() + woven_lists()]
        for text in texts + [WORKED, NINE, words_text("abc-y", "abc-z", "xabcw")]:
            answered = held(text, *[least(m, 0) for m in (1, 2, 3, 4)])
            for shorter, longer in zip(answered, answered[1:]):
                if shorter[0] == 1:
                    self.assertEqual(longer[0], 1, text)
                    self.assertLessEqual(longer[2], shorter[2], text)
                    fewer += longer[2] < shorter[2]
        self.assertGreater(fewer, 0)


class WhatIsHeld(unittest.TestCase):
    def test_a_load_that_fails_between_the_calls(self):
        wrong = ["", "!", "margins 0 0 ; word a-b ; word", "margins 0 0 ; pattern a0 ;", WORKED.ljust(4097)]
        calls = [least(4, 0), greedy(4), bound(4), check(4, [0, 3, 9]), check(4, [0, 3])]
        told = [[1, 12, 3, 0, 3, 9], [1, 12, 3, 0, 3, 9], [3, 0, 1, 2], [1, 3], [0, 2, 4]]
        joined = [call for number, text in enumerate(wrong) for call in (load(text), calls[number])]
        answered = ask(load(WORKED), *joined)
        self.assertEqual(answered[2::2], told)
        self.assertEqual([answer[0] for answer in answered[1::2]], [0] * 5)

    def test_a_load_that_fails_without_a_list(self):
        answered = ask(load("!"), least(4, 0), greedy(4), bound(4), check(4, []))
        self.assertEqual(answered[1:], [[-1]] * 4)

    def test_a_load_between_the_calls(self):
        texts = (WORKED, words_text("a-b"), words_text())
        joined = [call for text in texts for call in (load(text), least(4, 0), greedy(4), bound(4), check(4, []))]
        answered = ask(*joined)
        self.assertEqual(answered[6:10], [[1, 2, 1, 0], [1, 2, 1, 0], [1, 0], [0, 0, 1]])
        self.assertEqual(answered[11:], [[1, 0, 0], [1, 0, 0], [0], [1, 0]])


if __name__ == "__main__":
    unittest.main()
