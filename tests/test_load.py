"""load: texts and tokens, lists, and the faults with their places and their order."""

import unittest

from tests.calling import GOALS, WORKED, ask, load, loaded

HEAD = "margins 2 2 ; "


def numbered_words(count):
    """So many words, no two with the same letters."""
    return [f"word a{chr(97 + number)} ; " for number in range(count)]


def numbered_patterns(count):
    return [f"pattern {chr(97 + number // 26)}{chr(97 + number % 26)}1 ; " for number in range(count)]


class Tokens(unittest.TestCase):
    def test_worked_example(self):
        self.assertEqual(loaded(WORKED), [1, 3, 0])

    def test_words_and_patterns_are_counted(self):
        self.assertEqual(loaded(HEAD), [1, 0, 0])
        self.assertEqual(loaded(HEAD + "word ab ; pattern a1 ; pattern 1b ;"), [1, 1, 2])
        self.assertEqual(loaded(HEAD + "pattern a1 ;"), [1, 0, 1])

    def test_tokens_need_no_blank_at_the_sign(self):
        self.assertEqual(loaded("margins 2 2;word ta-ble;pattern .a1;"), [1, 1, 1])

    def test_each_blank_parts_tokens(self):
        for blank in (" ", "\t", "\n", " \t\n\n "):
            text = HEAD.replace(" ", blank) + blank + "word" + blank + "ab" + blank + ";" + blank
            self.assertEqual(loaded(blank + text), [1, 1, 0])

    def test_remarks_part_tokens_and_mean_nothing(self):
        self.assertEqual(loaded("#one\nmargins#two\n2#;\n 2#\n;#word ab ;"), [1, 0, 0])
        self.assertEqual(loaded(HEAD + "word aa#\nb ;"), [0, 3, len(HEAD + "word aa#\n")])
        self.assertEqual(loaded(HEAD + "# word ab ; ## \nword cd ; #\n"), [1, 1, 0])

    def test_a_remark_ends_at_byte_10_alone(self):
        self.assertEqual(loaded(HEAD + "# \t\r word ab ; "), [1, 0, 0])

    def test_a_remark_holds_any_byte(self):
        others = [byte for byte in range(256) if byte != 10]
        text = list(HEAD.encode()) + [35] + others + [10] + list(b"word ab ;")
        self.assertEqual(loaded(text), [1, 1, 0])

    def test_bytes_that_begin_no_token(self):
        known = b"abcdefghijklmnopqrstuvwxyz0123456789-.; \t\n#"
        for byte in range(256):
            answer = loaded(list(HEAD.encode()) + [byte] + list(b" ;"))
            if byte in known:
                self.assertNotEqual(answer[:2], [0, 2], byte)
            else:
                self.assertEqual(answer, [0, 2, len(HEAD)], byte)

    def test_a_byte_right_behind_a_chunk(self):
        self.assertEqual(loaded(HEAD + "word abC ;"), [0, 2, len(HEAD) + 7])

    def test_chunk_of_40_and_41_bytes(self):
        self.assertEqual(loaded(HEAD + "word " + "a" * 40 + " ;"), [0, 7, len(HEAD) + 5])
        self.assertEqual(loaded(HEAD + "word " + "a" * 41 + " ;"), [0, 2, len(HEAD) + 5])
        self.assertEqual(loaded("-9.a" * 10), [0, 3, 0])
        self.assertEqual(loaded(" " + "-9.a" * 10 + "."), [0, 2, 1])
        self.assertEqual(loaded("a" * 41 + "A"), [0, 2, 0])

    def test_the_first_of_several_places_without_a_token(self):
        self.assertEqual(loaded("margins ! " + "a" * 41), [0, 2, 8])
        self.assertEqual(loaded("margins " + "a" * 41 + " !"), [0, 2, 8])

    def test_4096_and_4097_bytes(self):
        self.assertEqual(loaded(WORKED.ljust(4096)), [1, 3, 0])
        self.assertEqual(loaded(WORKED.ljust(4097)), [0, 1, 4096])
        self.assertEqual(loaded(WORKED + "#" * (4096 - len(WORKED))), [1, 3, 0])
        self.assertEqual(loaded("#".ljust(4096)), [0, 3, 4096])
        self.assertEqual(loaded(WORKED.ljust(8192)), [0, 1, 4096])


class TokensInTheirPlaces(unittest.TestCase):
    def test_the_end_where_a_token_has_to_stand(self):
        tokens = "margins 2 2 ; word a-b ; pattern a1 ;".split()
        for count in range(len(tokens)):
            text = " ".join(tokens[:count])
            right = count in (4, 7)
            self.assertEqual(loaded(text)[0], 1 if right else 0, text)
            if not right:
                self.assertEqual(loaded(text), [0, 3, len(text)])
                self.assertEqual(loaded(text + " \n"), [0, 3, len(text) + 2])
                self.assertEqual(loaded(text + " # word"), [0, 3, len(text) + 7])
                self.assertEqual(loaded(text + "#\n"), [0, 3, len(text) + 2])

    def test_texts_without_a_token(self):
        self.assertEqual(loaded(""), [0, 3, 0])
        self.assertEqual(loaded("#"), [0, 3, 1])
        self.assertEqual(loaded(" \n\t"), [0, 3, 3])

    def test_the_sign_where_a_chunk_has_to_stand(self):
        for before in ("", "margins ", "margins 2 ", HEAD, HEAD + "word ", HEAD + "pattern ", HEAD + "word ab ; "):
            self.assertEqual(loaded(before + "; "), [0, 3, len(before)], before)

    def test_a_chunk_where_the_sign_has_to_stand(self):
        for before in ("margins 2 2 ", HEAD + "word ab ", HEAD + "pattern a1 "):
            for chunk in ("2", "word", "pattern", "a1"):
                self.assertEqual(loaded(before + chunk + " ;"), [0, 3, len(before)], before)

    def test_chunks_that_begin_nothing(self):
        for chunk in ("margin", "marginss", "word", "pattern", "2", "-", "."):
            self.assertEqual(loaded(chunk + " 2 2 ;"), [0, 3, 0], chunk)
        for before in (HEAD, HEAD + "word ab ; ", HEAD + "pattern a1 ; "):
            for chunk in ("margins", "words", "wor", "patterns", "patter", "w-ord", "2"):
                self.assertEqual(loaded(before + chunk + " cd ;"), [0, 3, len(before)], before)

    def test_word_behind_a_pattern(self):
        before = HEAD + "word ab ; pattern a1 ; "
        self.assertEqual(loaded(before + "word cd ;"), [0, 3, len(before)])

    def test_own_chunks_where_words_stand(self):
        self.assertEqual(loaded(HEAD + "word margins ; word word ; word pattern ;"), [1, 3, 0])

    def test_own_chunks_where_margins_and_patterns_stand(self):
        for chunk in ("margins", "word", "pattern"):
            self.assertEqual(loaded(f"margins {chunk} 2 ;"), [0, 7, 8])
            self.assertEqual(loaded(f"margins 2 {chunk} ;"), [0, 7, 10])
            self.assertEqual(loaded(HEAD + f"pattern {chunk} ;"), [0, 7, len(HEAD) + 8])


class Chunks(unittest.TestCase):
    def test_margins(self):
        for number in range(6):
            self.assertEqual(loaded(f"margins {number} {5 - number} ;"), [1, 0, 0])
        for chunk in ("6", "9", "10", "00", "01", "-1", "a", ".", "-", "2.", "2-"):
            self.assertEqual(loaded(f"margins {chunk} 2 ;"), [0, 7, 8], chunk)
            self.assertEqual(loaded(f"margins 2 {chunk} ;"), [0, 7, 10], chunk)

    def test_how_many_letters_a_word_has(self):
        for letters, right in ((1, False), (2, True), (16, True), (17, False)):
            for chunk in ("a" * letters, "-".join("a" * letters)):
                answer = [1, 1, 0] if right else [0, 7, len(HEAD) + 5]
                self.assertEqual(loaded(HEAD + f"word {chunk} ;"), answer, chunk)

    def test_words_not_as_told(self):
        for chunk in ("-ab", "ab-", "a--b", "-", "--", "a-b-", "a1b", "ab1", "a.b", ".ab", "ab.", "12"):
            self.assertEqual(loaded(HEAD + f"word {chunk} ;"), [0, 7, len(HEAD) + 5], chunk)

    def test_patterns_as_told(self):
        for chunk in ("a1", "1a", "1a1", "a9b", "1a2b3c4d5e6f7", ".a1", "a1.", ".a1.", ".1a", "1a.", ".1a1b1.", "abcdef1"):
            self.assertEqual(loaded(HEAD + f"pattern {chunk} ;"), [1, 0, 1], chunk)

    def test_patterns_not_as_told(self):
        wrong = ["a", "abc", ".ab.", "a12", "12a", "a11b", "a0", "0a", "a0b1", "1a0", "1", "9", ".", "..", "...", "-"]
        wrong += [".1", "1.", ".1.", "a.1", "1.a", "a.b1", "..a1", "a1..", "a-1", "a1-", "-a1", "abcdefg1", "a" * 7]
        for chunk in wrong:
            self.assertEqual(loaded(HEAD + f"pattern {chunk} ;"), [0, 7, len(HEAD) + 8], chunk)

    def test_the_same_letters_twice(self):
        before = HEAD + "word ta-ble ; word cab ; "
        for chunk in ("table", "ta-ble", "tab-le", "cab", "c-a-b"):
            self.assertEqual(loaded(before + f"word {chunk} ;"), [0, 5, len(before) + 5], chunk)
        self.assertEqual(loaded(before + "word tabl ; word tables ; word able ;"), [1, 5, 0])

    def test_the_same_pattern_twice(self):
        before = HEAD + "pattern a1b ; pattern .c1 ; "
        for chunk in ("a1b", "a2b", "1ab", "ab1", "1a2b3", ".c1", ".1c", ".2c2"):
            self.assertEqual(loaded(before + f"pattern {chunk} ;"), [0, 5, len(before) + 8], chunk)

    def test_patterns_that_differ_in_their_points_alone(self):
        text = HEAD + "pattern a1 ; pattern .a1 ; pattern a1. ; pattern .a1. ;"
        self.assertEqual(loaded(text), [1, 0, 4])

    def test_a_pattern_may_have_a_words_letters(self):
        self.assertEqual(loaded(HEAD + "word ab ; pattern a1b ; pattern ab1c ;"), [1, 1, 2])


class Counts(unittest.TestCase):
    def test_words(self):
        words = numbered_words(26)
        self.assertEqual(loaded(HEAD + "".join(words[:24])), [1, 24, 0])
        before = HEAD + "".join(words[:24])
        self.assertEqual(loaded(before + words[24]), [0, 4, len(before)])
        self.assertEqual(loaded(before + "word"), [0, 4, len(before)])
        self.assertEqual(loaded(before + "word ;"), [0, 4, len(before)])
        self.assertEqual(loaded(before + words[0]), [0, 4, len(before)])
        self.assertEqual(loaded(before + "pattern a1 ;"), [1, 24, 1])
        before += "pattern a1 ; "
        self.assertEqual(loaded(before + words[24]), [0, 3, len(before)])

    def test_patterns(self):
        patterns = numbered_patterns(41)
        before = HEAD + "".join(numbered_words(24)) + "".join(patterns[:40])
        self.assertEqual(loaded(before), [1, 24, 40])
        self.assertEqual(loaded(before + patterns[40]), [0, 4, len(before)])
        self.assertEqual(loaded(before + "pattern 0"), [0, 4, len(before)])
        self.assertEqual(loaded(before + patterns[0]), [0, 4, len(before)])
        self.assertEqual(loaded(before + "word zz ;"), [0, 3, len(before)])


class WhichFaultIsTold(unittest.TestCase):
    def test_too_many_bytes_before_all_else(self):
        self.assertEqual(loaded("!".ljust(4097)), [0, 1, 4096])
        self.assertEqual(loaded("; ".ljust(4097)), [0, 1, 4096])

    def test_no_token_before_faults_that_stand_ahead_of_it(self):
        for wrong in ("; ", "margins 9 ", HEAD + "word ab ; word ab ; ", HEAD + "pattern a0 ; "):
            self.assertEqual(loaded(wrong + "!"), [0, 2, len(wrong)], wrong)
        before = HEAD + "".join(numbered_words(25))
        self.assertEqual(loaded(before + "!"), [0, 2, len(before)])

    def test_from_left_to_right(self):
        self.assertEqual(loaded("margins 9 ; ;"), [0, 7, 8])
        self.assertEqual(loaded(HEAD + "word a word ab ;"), [0, 7, len(HEAD) + 5])
        self.assertEqual(loaded(HEAD + "word ab word a ;"), [0, 3, len(HEAD) + 8])
        self.assertEqual(loaded(HEAD + "word ab ; word a-b ; word a ;"), [0, 5, len(HEAD) + 15])
        self.assertEqual(loaded(HEAD + "word ab ; word a ; word ab ;"), [0, 7, len(HEAD) + 15])

    def test_not_as_told_before_twice(self):
        self.assertEqual(loaded(HEAD + "word ab ; word a--b ;"), [0, 7, len(HEAD) + 15])
        self.assertEqual(loaded(HEAD + "pattern a1 ; pattern a ;"), [0, 7, len(HEAD) + 21])


class WhatIsHeld(unittest.TestCase):
    def test_a_load_that_fails_changes_nothing(self):
        wrong = ["", "!", ";", HEAD + "word a", HEAD + "word x-y ; word x-y ;", HEAD + "pattern a0 ;", WORKED.ljust(4097)]
        answered = ask(load(WORKED), GOALS, *[call for text in wrong for call in (load(text), GOALS)])
        for number in range(len(wrong)):
            self.assertEqual(answered[2 + 2 * number][0], 0, wrong[number])
            self.assertEqual(answered[3 + 2 * number], [3, 0, 2, 1, 2, 2, 4], wrong[number])

    def test_a_load_that_fails_without_a_list_holds_none(self):
        self.assertEqual(ask(load(HEAD + "word a-b ; word"), GOALS)[1], [-1])

    def test_a_load_replaces_what_is_held(self):
        answered = ask(load(WORKED), load("margins 0 0 ; word a-b ;"), GOALS, load(HEAD), GOALS)
        self.assertEqual(answered[1:], [[1, 1, 0], [1, 0, 1], [1, 0, 0], [0]])


if __name__ == "__main__":
    unittest.main()
