"""The object that holds a list, or none, and answers the calls."""

from leastpieces.apart import greatest_apart
from leastpieces.choices import FEWEST_BYTES, FEWEST_PIECES, greedy_set, least_set
from leastpieces.family import family_up_to, first_uncovered, goals_of, is_exact, used_pieces
from leastpieces.lists import Fault, read_list

NOT_REFUSED = 0
MOST_LENGTH = 4
MOST_GOALS = 9


def is_piece(pieces, number):
    return number >= 0 and number < len(pieces)


def told_choice(choice):
    return [choice.size, len(choice.numbers)] + choice.numbers


class Holder:
    def __init__(self):
        self.listed = None

    def load(self, text):
        reading = read_list(text)
        if isinstance(reading, Fault):
            return [0, reading.code, reading.place]
        self.listed = reading
        return [1, len(reading.words), len(reading.patterns)]

    def goals(self):
        if self.listed is None:
            return [-1]
        goals = goals_of(self.listed)
        answer = [len(goals)]
        for goal in goals:
            answer.extend([goal.word, goal.gap])
        return answer

    def family(self, longest):
        refused = self.refusal(longest)
        if refused != NOT_REFUSED:
            return [refused]
        pieces = family_up_to(self.listed, longest)
        return [len(pieces), len(used_pieces(pieces))] + self.uncovered(pieces)

    def piece(self, longest, number):
        refused = self.refusal(longest)
        if refused != NOT_REFUSED:
            return [refused]
        pieces = family_up_to(self.listed, longest)
        if not is_piece(pieces, number):
            return [-2]
        chunk = [ord(sign) for sign in pieces[number].chunk]
        covered = pieces[number].covered
        return [len(chunk)] + chunk + [len(covered)] + covered

    def least(self, longest, kind):
        refused = self.refusal(longest)
        if refused != NOT_REFUSED:
            return [refused]
        if kind != FEWEST_PIECES and kind != FEWEST_BYTES:
            return [-4]
        goals = goals_of(self.listed)
        pieces = family_up_to(self.listed, longest)
        if not is_exact(goals, pieces):
            return [0] + self.uncovered(pieces)
        return [1] + told_choice(least_set(pieces, len(goals), kind))

    def greedy(self, longest):
        refused = self.refusal(longest)
        if refused != NOT_REFUSED:
            return [refused]
        pieces = family_up_to(self.listed, longest)
        if not is_exact(goals_of(self.listed), pieces):
            return [0] + self.uncovered(pieces)
        return [1] + told_choice(greedy_set(pieces))

    def bound(self, longest):
        refused = self.refusal(longest)
        if refused != NOT_REFUSED:
            return [refused]
        goals = goals_of(self.listed)
        apart = greatest_apart(family_up_to(self.listed, longest), len(goals))
        return [len(apart)] + apart

    def check(self, longest, numbers):
        refused = self.refusal(longest)
        if refused != NOT_REFUSED:
            return [refused]
        pieces = family_up_to(self.listed, longest)
        if not all([is_piece(pieces, number) for number in numbers]):
            return [-4]
        chosen = [pieces[number] for number in numbers]
        if not is_exact(goals_of(self.listed), chosen):
            return [0] + self.uncovered(chosen)
        return [1, len(numbers)]

    def refusal(self, longest):
        if self.listed is None:
            return -1
        if longest < 1 or longest > MOST_LENGTH:
            return -3
        if len(goals_of(self.listed)) > MOST_GOALS:
            return -6
        return NOT_REFUSED

    def uncovered(self, pieces):
        goals = goals_of(self.listed)
        number = first_uncovered(goals, pieces)
        if number == -1:
            return [-1, 0]
        return [goals[number].word, goals[number].gap]
