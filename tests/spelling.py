"""Lists and pieces that are spelled, not written out, for all tests."""

from leastpieces.family import Piece
from tests import reference

LEFTS = ("a", "ba", "ca", "cba", "b", "ab", "cab")
RIGHTS = ("x", "xy", "xz", "xyz", "y", "yx", "yxz")
WHOLE = ("waxw", "wbyw", "waw", "wbw", "wxw", "wyw", "wbaw", "wxyw")


class Drawer:
    """Draws from a row of numbers that is the same in each run."""

    def __init__(self, number):
        self.number = number

    def below(self, limit):
        self.number = (self.number * 1103515245 + 12345) % 2147483648
        return (self.number >> 12) % limit

    def one_of(self, things):
        return things[self.below(len(things))]


def pieces_of(covers):
    """Pieces with these letters, that cover these goals."""
    pieces = []
    for letters, covered in covers:
        pieces.append(Piece(letters, 1, "", ""))
        pieces[-1].covered = covered
    return pieces


def text_of(margins, words):
    return f"margins {margins[0]} {margins[1]} ; " + " ".join(f"word {word} ;" for word in words)


def words_text(*words):
    return text_of((0, 0), words)


def lists():
    """Lists with at most 9 goals, of a few short words."""
    drawer = Drawer(12345)
    found = []
    while len(found) < 60:
        words = {}
        for at in range(2 + len(found) % 4):
            word = spelled(drawer, 2 + drawer.below(6))
            words.setdefault(word.replace("-", ""), word)
        margins = (len(found) % 3, len(found) // 3 % 3)
        if len(reference.goals(margins, list(words.values()))) <= 9:
            found.append((margins, list(words.values())))
    return found


def spelled(drawer, letters):
    word = drawer.one_of("abc")
    for at in range(letters - 1):
        word += drawer.one_of(("", "", "-")) + drawer.one_of("abc")
    return word


def woven_lists():
    """Lists with 2 to 6 goals that share many pieces, and words in which some of these are wrong."""
    drawer = Drawer(2026)
    found = []
    while len(found) < 60:
        words = {}
        for at in range(3 + len(found) % 4):
            word = drawer.one_of(LEFTS) + "-" + drawer.one_of(RIGHTS)
            words.setdefault(word.replace("-", ""), word)
        for at in range(1 + len(found) % 3):
            whole = drawer.one_of(WHOLE)
            words.setdefault(whole, whole)
        found.append(((0, 0), list(words.values())))
    return found


def covers():
    """How many goals there are, and chunks' letters with the goals that they cover: each goal is covered."""
    drawer = Drawer(611)
    found = []
    while len(found) < 600:
        count = 1 + drawer.below(6)
        drawn = []
        for number in range(count + drawer.below(8)):
            letters = "abcdefghijklmnop"[number] * (1 + drawer.below(6))
            goals = [goal for goal in range(count) if drawer.below(3) == 0]
            drawn.append((letters, goals or [drawer.below(count)]))
        if {goal for letters, goals in drawn for goal in goals} == set(range(count)):
            found.append((count, drawn))
    return found
