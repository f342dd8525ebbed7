"""The calls, told one behind another in one list of whole numbers, and their answers."""

from leastpieces.holder import Holder

LOAD = 0
GOALS = 1
FAMILY = 2
PIECE = 3
LEAST = 4
GREEDY = 5
BOUND = 6
CHECK = 7


class UnknownCall(ValueError):
    pass


def call_end(calls, start):
    call = calls[start]
    if call == LOAD:
        return start + 2 + calls[start + 1]
    if call == CHECK:
        return start + 3 + calls[start + 2]
    if call == GOALS:
        return start + 1
    if call in (FAMILY, GREEDY, BOUND):
        return start + 2
    if call in (PIECE, LEAST):
        return start + 3
    raise UnknownCall(f"no such call: {call}")


def answer_call(holder, call):
    if call[0] == LOAD:
        return holder.load(call[2:])
    if call[0] == GOALS:
        return holder.goals()
    if call[0] == FAMILY:
        return holder.family(call[1])
    if call[0] == PIECE:
        return holder.piece(call[1], call[2])
    if call[0] == LEAST:
        return holder.least(call[1], call[2])
    if call[0] == GREEDY:
        return holder.greedy(call[1])
    if call[0] == BOUND:
        return holder.bound(call[1])
    return holder.check(call[1], call[3:])


def answers(calls):
    holder = Holder()
    told = []
    start = 0
    while start < len(calls):
        end = call_end(calls, start)
        answer = answer_call(holder, calls[start:end])
        told.append(len(answer))
        told.extend(answer)
        start = end
    return told
