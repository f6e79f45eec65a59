"""The best of a question, found by going through parted cases, and whether closed cases part all."""

from goodenough.errors import TooMany


def gone_on(question, case):
    # The last one waiting is looked at first, so the least way has to wait last.
    return [case + (way,) for way in reversed(question.ways(case))]


def best_by_cases(question, most=2000):
    best = None
    cost = None
    closed = []
    looked_at = 0
    waiting = [()]
    while len(waiting) > 0:
        looked_at += 1
        if looked_at > most:
            raise TooMany("more cases than may be looked at")
        case = waiting.pop()
        least = question.low(case)
        if cost is not None and least >= cost:
            closed.append(case)
        elif len(case) == question.steps():
            closed.append(case)
            best = case
            cost = least
        else:
            waiting.extend(gone_on(question, case))
    return (best, cost, closed)


def parts_all(question, closed):
    # What waits is what the rest of the list has to part, the next of it last. A case is opened only where the
    # list's case comes of it, so no question is asked about a case that hasn't come by ways.
    waiting = [()]
    for case in closed:
        if len(waiting) == 0:
            return False
        while waiting[-1] != case:
            wide = waiting.pop()
            if len(wide) == question.steps() or case[:len(wide)] != wide:
                return False
            waiting.extend(gone_on(question, wide))
        waiting.pop()
    return len(waiting) == 0
