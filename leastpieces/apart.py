"""Goals that are apart, as no piece covers two of them, and the greatest set of such."""


def joined_pairs(pieces, goal_count):
    pairs = []
    for first in range(goal_count):
        for second in range(first + 1, goal_count):
            if any([first in piece.covered and second in piece.covered for piece in pieces]):
                pairs.append((first, second))
    return pairs


def are_apart(pairs, goals):
    for pair in pairs:
        if pair[0] in goals and pair[1] in goals:
            return False
    return True


# Goal 0 is the highest bit, so that sets by number come in the order in which sets are compared.
def goals_by_number(number, goal_count):
    return [goal for goal in range(goal_count) if (number >> (goal_count - 1 - goal)) & 1 == 1]


def greatest_apart(pieces, goal_count):
    pairs = joined_pairs(pieces, goal_count)
    greatest = []
    for number in range(1 << goal_count):
        goals = goals_by_number(number, goal_count)
        if len(goals) > len(greatest) and are_apart(pairs, goals):
            greatest = goals
    return greatest
