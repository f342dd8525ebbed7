"""Sets of pieces that cover each goal: the least one by either kind, and the one that comes greedily."""

from leastpieces.family import used_pieces

FEWEST_PIECES = 0
FEWEST_BYTES = 1


# Pieces' numbers, in the order in which they were taken, and how many bytes their chunks have together.
class Choice:
    def __init__(self, numbers, size):
        self.numbers = numbers
        self.size = size

    def rank(self, kind):
        if kind == FEWEST_PIECES:
            return (len(self.numbers), self.size)
        return (self.size, len(self.numbers))


# Goals as the bits of one whole number: goal 0 is the lowest bit.
def goal_bits(goals):
    bits = 0
    for goal in goals:
        bits |= 1 << goal
    return bits


def lowest_uncovered(covered):
    goal = 0
    while (covered >> goal) & 1 == 1:
        goal += 1
    return goal


# The used pieces in order, and not by number: one may stand in an earlier one's place.
def used_by_goal(pieces, goal_count):
    by_goal = [[] for goal in range(goal_count)]
    for number in used_pieces(pieces):
        for goal in pieces[number].covered:
            by_goal[goal].append(number)
    return by_goal


def least_choice(choices, kind):
    least = choices[0]
    for choice in choices:
        # An equal one that comes later does not count: of several the first is told.
        if choice.rank(kind) < least.rank(kind):
            least = choice
    return least


# Each goal has to be covered by a piece.
def least_set(pieces, goal_count, kind):
    used = used_by_goal(pieces, goal_count)
    everything = (1 << goal_count) - 1
    least = {everything: Choice([], 0)}
    # A piece more always makes the number of the covered goals greater, so what is gone on with is known.
    for covered in range(everything - 1, -1, -1):
        choices = []
        for number in used[lowest_uncovered(covered)]:
            rest = least[covered | goal_bits(pieces[number].covered)]
            choices.append(Choice([number] + rest.numbers, len(pieces[number].chunk) + rest.size))
        least[covered] = least_choice(choices, kind)
    return least[0]


# -1 if no piece covers a goal that is not covered yet.
def most_covering(pieces, covered):
    most = 0
    found = -1
    for number, piece in enumerate(pieces):
        more = len([goal for goal in piece.covered if goal not in covered])
        if more > most:
            most = more
            found = number
    return found


def greedy_set(pieces):
    so_far = {}
    choice = Choice([], 0)
    number = most_covering(pieces, so_far)
    while number != -1:
        choice = Choice(choice.numbers + [number], choice.size + len(pieces[number].chunk))
        for goal in pieces[number].covered:
            so_far[goal] = True
        number = most_covering(pieces, so_far)
    return choice
