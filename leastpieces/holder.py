"""The object that holds a list, or none, and answers the calls."""

from leastpieces.family import family_up_to, first_uncovered, goals_of, used_pieces
from leastpieces.lists import Fault, read_list

NOT_REFUSED = 0
MOST_LENGTH = 4
MOST_GOALS = 9


class Holder:
    def __init__(self):
        self.listed = None

    def load(self, text):
        reading = read_list(text)
        if isinstance(reading, Fault):
            return [0, reading.code, reading.place]
        self.listed = reading
        return [1, len(reading.words), len(reading.patterns)]

    def goals(self):
        if self.listed is None:
            return [-1]
        goals = goals_of(self.listed)
        answer = [len(goals)]
        for goal in goals:
            answer.extend([goal.word, goal.gap])
        return answer

    def family(self, longest):
        refused = self.refusal(longest)
        if refused != NOT_REFUSED:
            return [refused]
        pieces = family_up_to(self.listed, longest)
        return [len(pieces), len(used_pieces(pieces))] + self.uncovered(pieces)

    def piece(self, longest, number):
        refused = self.refusal(longest)
        if refused != NOT_REFUSED:
            return [refused]
        pieces = family_up_to(self.listed, longest)
        if number < 0 or number >= len(pieces):
            return [-2]
        chunk = [ord(sign) for sign in pieces[number].chunk]
        covered = pieces[number].covered
        return [len(chunk)] + chunk + [len(covered)] + covered

    def refusal(self, longest):
        if self.listed is None:
            return -1
        if longest < 1 or longest > MOST_LENGTH:
            return -3
        if len(goals_of(self.listed)) > MOST_GOALS:
            return -6
        return NOT_REFUSED

    def uncovered(self, pieces):
        goals = goals_of(self.listed)
        number = first_uncovered(goals, pieces)
        if number == -1:
            return [-1, 0]
        return [goals[number].word, goals[number].gap]
