"""piece: a piece's chunk and the goals that it covers."""

import unittest

from tests.calling import GOALS, HIGHEST, TEN, WORKED, ask, chunks_of, held, load, piece


class Refusals(unittest.TestCase):
    def test_no_list_before_all_else(self):
        for m, i in ((4, 0), (0, 0), (5, -1), (HIGHEST, -HIGHEST)):
            self.assertEqual(ask(piece(m, i)), [[-1]])

    def test_lengths_before_the_piece(self):
        for m in (-HIGHEST, -1, 0, 5, HIGHEST):
            self.assertEqual(held(WORKED, piece(m, 0), piece(m, -1), piece(m, HIGHEST)), [[-3]] * 3)

    def test_more_than_9_goals(self):
        self.assertEqual(held(TEN, piece(1, 0), piece(4, -1), piece(4, HIGHEST)), [[-6]] * 3)
        self.assertEqual(held(TEN, piece(0, 0), piece(5, -1)), [[-3]] * 2)

    def test_no_such_piece(self):
        for m, count in ((2, 3), (4, 11)):
            told = held(WORKED, piece(m, -HIGHEST), piece(m, -1), piece(m, count), piece(m, HIGHEST))
            self.assertEqual(told, [[-2]] * 4)
            self.assertGreater(held(WORKED, piece(m, count - 1))[0][0], 0)

    def test_no_piece_at_all(self):
        self.assertEqual(held("margins 0 0 ;", piece(1, 0), piece(4, -1)), [[-2]] * 2)
        self.assertEqual(held("margins 0 0 ; word yyyyy-yyyyyy ;", piece(4, 0)), [[-2]])

    def test_a_refusal_leaves_what_is_held(self):
        answered = ask(load(WORKED), piece(9, 0), piece(4, 11), GOALS, piece(4, 3))
        self.assertEqual(answered[3:], [[3, 0, 2, 1, 2, 2, 4], [3, 99, 97, 49, 1, 1]])


class Pieces(unittest.TestCase):
    def test_worked_example(self):
        self.assertEqual(held(WORKED, piece(4, 3)), [[3, 99, 97, 49, 1, 1]])

    def test_pieces_of_the_worked_example(self):
        expected = [(".ta1", [0]), (".ta1b", [0]), (".ta1bl", [0]), ("ca1", [1]), (".ca1", [1]), ("ca1b", [1])]
        expected += [(".ca1b", [1]), ("ca1bl", [1]), (".ca1bl", [1]), ("stab1", [2]), (".stab1", [2])]
        self.assertEqual(chunks_of(WORKED, 4), expected)

    def test_points_stand_in_the_chunk(self):
        told = held("margins 0 0 ; word a-b ;", piece(2, 1), piece(2, 3), piece(2, 7))
        self.assertEqual(told, [[3, 46, 97, 49, 1, 0], [3, 49, 98, 46, 1, 0], [5, 46, 97, 49, 98, 46, 1, 0]])

    def test_a_piece_covers_several_goals(self):
        covers = dict(chunks_of("margins 0 0 ; word a-ba-ca ; word da-e ; word x-y ;", 1))
        self.assertEqual(covers["a1"], [0, 1, 2])
        self.assertEqual(covers[".a1"], [0])
        self.assertEqual(covers["1e."], [2])

    def test_pieces_that_overlap_themselves(self):
        covers = dict(chunks_of("margins 0 0 ; word a-a-a ;", 2))
        self.assertEqual(covers["a1"], [0, 1])
        self.assertEqual(covers["a1a"], [0, 1])
        self.assertEqual(covers[".a1a"], [0])
        self.assertEqual(covers["a1a."], [1])
        self.assertEqual(covers["aa1"], [1])

    def test_gaps_outside_the_margins_are_not_covered(self):
        covers = dict(chunks_of("margins 2 0 ; word a-ba-c ;", 1))
        self.assertEqual(covers["a1"], [0])
        covers = dict(chunks_of("margins 0 2 ; word c-ab-a ; word ab-abc ;", 2))
        self.assertEqual(covers["1ab"], [0, 1])

    def test_a_piece_numbers_change_with_the_length(self):
        self.assertEqual(held(WORKED, piece(2, 1), piece(4, 1)), [[3, 99, 97, 49, 1, 1], [5, 46, 116, 97, 49, 98, 1, 0]])


if __name__ == "__main__":
    unittest.main()
