"""The document's words on parting, pieces and least sets, once more and in another way.

Words and patterns are texts; a word stands between two points, so a pattern's
own points are signs to be found like any other.
"""

import itertools
import re


def letters_of(word):
    return word.replace("-", "")


def breaks_of(word):
    return [hit.start() - number for number, hit in enumerate(re.finditer("-", word))]


def digits_of(pattern):
    """The pattern's signs without digits, and each digit by how many signs stand before it."""
    digits = {}
    signs = ""
    for sign in pattern:
        if sign in "123456789":
            digits[len(signs)] = int(sign)
        else:
            signs += sign
    return signs, digits


def parted(margins, patterns, word):
    """The gaps where the patterns part the word."""
    framed = "." + letters_of(word) + "."
    levels = [0] * (len(framed) + 1)
    for pattern in patterns:
        signs, digits = digits_of(pattern)
        for hit in re.finditer(f"(?={re.escape(signs)})", framed):
            for offset, digit in digits.items():
                place = hit.start() + offset
                levels[place] = max(levels[place], digit)
    count = len(framed) - 2
    lowest = max(margins[0], 1)
    highest = count - max(margins[1], 1)
    return [gap for gap in range(lowest, highest + 1) if levels[gap + 1] % 2 == 1]


def goals(margins, words):
    found = []
    for number, word in enumerate(words):
        count = len(letters_of(word))
        for gap in breaks_of(word):
            if gap >= margins[0] and count - gap >= margins[1]:
                found.append((number, gap))
    return found


def around(word, gap, m):
    letters = letters_of(word)
    for length in range(1, m + 1):
        for first in range(max(0, gap - length), gap + 1):
            last = first + length
            if last > len(letters):
                continue
            body = letters[first:gap] + "1" + letters[gap:last]
            yield body
            if first == 0:
                yield "." + body
            if last == len(letters):
                yield body + "."
            if length == len(letters):
                yield "." + body + "."


def family(margins, words, m):
    """Each piece's chunk, with the goals that it covers."""
    all_goals = goals(margins, words)
    found = {}
    for number, gap in all_goals:
        for chunk in around(words[number], gap, m):
            gaps = [parted(margins, [chunk], word) for word in words]
            if all(set(gaps[at]) <= set(breaks_of(word)) for at, word in enumerate(words)):
                covered = [n for n, (w, g) in enumerate(all_goals) if g in gaps[w]]
                found.setdefault(chunk, covered)
    return list(found.items())


def used(pieces):
    """The chunks of the used pieces."""
    groups = {}
    for chunk, covered in pieces:
        groups.setdefault(tuple(covered), []).append(chunk)
    return [min(chunks, key=len) for chunks in groups.values()]


def first_uncovered(margins, words, m):
    covered = set()
    for chunk, numbers in family(margins, words, m):
        covered.update(numbers)
    for number, goal in enumerate(goals(margins, words)):
        if number not in covered:
            return list(goal)
    return [-1, 0]


def size_of(chunks):
    return sum(map(len, chunks))


def tellings(taken, count, covered=frozenset()):
    """Each way to cover all goals, the lowest one that is not covered yet always first, in order."""
    missing = [goal for goal in range(count) if goal not in covered]
    if not missing:
        yield []
        return
    for chunk, goals_covered in taken:
        if missing[0] in goals_covered:
            for rest in tellings(taken, count, covered.union(goals_covered)):
                yield [chunk] + rest


def least(pieces, count, kind):
    """The chunks of the least set, as it is told; min and max take the first of several."""
    covers = dict(pieces)
    taken = [(chunk, covers[chunk]) for chunk in used(pieces)]
    if kind == 0:
        return min(tellings(taken, count), key=lambda chunks: (len(chunks), size_of(chunks)))
    return min(tellings(taken, count), key=lambda chunks: (size_of(chunks), len(chunks)))


def greedy(pieces):
    """The chunks that come greedily."""
    left = {goal for chunk, covered in pieces for goal in covered}
    chunks = []
    while left:
        chunk, covered = max(pieces, key=lambda piece: len(left.intersection(piece[1])))
        chunks.append(chunk)
        left = left.difference(covered)
    return chunks


def bound(pieces, count):
    """The greatest set of goals that are apart: a row of flags a set, goal 0 in front."""
    rows = itertools.product((False, True), repeat=count)
    apart = [row for row in rows if all(sum(row[goal] for goal in covered) <= 1 for chunk, covered in pieces)]
    return [goal for goal, flag in enumerate(max(apart, key=sum)) if flag]


def is_exact(chosen, count):
    """Whether these pieces, chunks with the goals that they cover, cover all goals."""
    return {goal for chunk, covered in chosen for goal in covered} == set(range(count))
