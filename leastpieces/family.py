"""Goals, the family of good pieces around them, and which of its pieces are used."""

from leastpieces.parting import is_within_margins, parted_gaps


class Goal:
    def __init__(self, word, gap):
        self.word = word
        self.gap = gap


# A pattern with the one digit 1, which has so many letters before it; a point is "." or "".
class Piece:
    def __init__(self, letters, before, first_point, last_point):
        self.letters = letters
        self.before = before
        self.first_point = first_point
        self.last_point = last_point
        self.chunk = first_point + letters[:before] + "1" + letters[before:] + last_point
        self.covered = []


def goals_of(listed):
    goals = []
    for number, word in enumerate(listed.words):
        for gap in word.breaks:
            if is_within_margins(listed.margins, word.letters, gap):
                goals.append(Goal(number, gap))
    return goals


def pointed_pieces(letters, gap, place, length):
    end = place + length
    first_points = ["", "."] if place == 0 else [""]
    last_points = ["", "."] if end == len(letters) else [""]
    pieces = []
    for last_point in last_points:
        for first_point in first_points:
            pieces.append(Piece(letters[place:end], gap - place, first_point, last_point))
    return pieces


def pieces_around(letters, gap, longest):
    pieces = []
    for length in range(1, longest + 1):
        for place in range(len(letters) - length + 1):
            if place <= gap and gap <= place + length:
                pieces.extend(pointed_pieces(letters, gap, place, length))
    return pieces


def is_good(listed, piece):
    for word in listed.words:
        for gap in parted_gaps(listed.margins, piece, word.letters):
            if gap not in word.breaks:
                return False
    return True


def covered_goals(listed, goals, piece):
    parted = [parted_gaps(listed.margins, piece, word.letters) for word in listed.words]
    return [number for number, goal in enumerate(goals) if goal.gap in parted[goal.word]]


def family_up_to(listed, longest):
    goals = goals_of(listed)
    seen = {}
    pieces = []
    for goal in goals:
        for piece in pieces_around(listed.words[goal.word].letters, goal.gap, longest):
            # A chunk has the letters, the points and the digit: the same chunk is the same piece.
            if piece.chunk not in seen:
                seen[piece.chunk] = True
                if is_good(listed, piece):
                    piece.covered = covered_goals(listed, goals, piece)
                    pieces.append(piece)
    return pieces


def used_pieces(pieces):
    best = {}
    for number, piece in enumerate(pieces):
        covered = tuple(piece.covered)
        # A better one takes the first one's place: a dict keeps where a key first came.
        if covered not in best or len(piece.chunk) < len(pieces[best[covered]].chunk):
            best[covered] = number
    return list(best.values())


# -1 if there is none.
def first_uncovered(goals, pieces):
    for number in range(len(goals)):
        if not any([number in piece.covered for piece in pieces]):
            return number
    return -1


def is_exact(goals, pieces):
    return first_uncovered(goals, pieces) == -1
