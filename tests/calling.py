"""Calls told in one list, and what they answer, for all tests."""

from leastpieces.pieces import answers

WORKED = "margins 2 2 ; word ta-ble ; word ca-ble ; word stab-le ;"
NINE = "margins 0 0 ; word a-b-c-d-e-f-g-h-i-j ;"
TEN = "margins 0 0 ; word a-b-c-d-e-f-g-h-i-j ; word k-l ;"
# No piece of at most four letters tells where the last two words are parted.
NOT_ALL = "margins 0 0 ; word a-b ; word yyyyy-yyyyyy ; word zzzzz-zzzzzz ;"
GOALS = [1]
HIGHEST = 10 ** 18


def load(text):
    """The call load; text is an ASCII text or a list of bytes."""
    told = [ord(sign) for sign in text] if isinstance(text, str) else list(text)
    return [0, len(told)] + told


def family(m):
    return [2, m]


def piece(m, i):
    return [3, m, i]


def least(m, k):
    return [4, m, k]


def greedy(m):
    return [5, m]


def bound(m):
    return [6, m]


def check(m, numbers):
    return [7, m, len(numbers)] + list(numbers)


def ask(*calls):
    """Each call's answer, as a list of its own."""
    joined = []
    for call in calls:
        joined.extend(call)
    told = answers(joined)
    parted = []
    start = 0
    while start < len(told):
        end = start + 1 + told[start]
        parted.append(told[start + 1:end])
        start = end
    assert start == len(told) and len(parted) == len(calls), told
    return parted


def loaded(text):
    """What load answers to the text alone."""
    return ask(load(text))[0]


def held(text, *calls):
    """What the calls answer while the text's list is held."""
    answered = ask(load(text), *calls)
    assert answered[0][0] == 1, answered[0]
    return answered[1:]


def chunks_of(text, m):
    """The chunks of the family's pieces, and the goals that each covers."""
    count = held(text, family(m))[0][0]
    found = []
    for first in range(0, count, 19):
        numbers = range(first, min(first + 19, count))
        for told in held(text, *[piece(m, i) for i in numbers]):
            size = told[0]
            assert told[size + 1] == len(told[size + 2:])
            found.append(("".join(map(chr, told[1:size + 1])), told[size + 2:]))
    return found


def named(text, m, call):
    """The set that the call answers: its bytes, and its pieces' chunks."""
    told = held(text, call)[0]
    assert told[0] == 1 and told[2] == len(told[3:]), told
    chunks = [chunk for chunk, covered in chunks_of(text, m)]
    return told[1], [chunks[number] for number in told[3:]]
