"""Places chosen by the farthest next, their radius, and the paper of places far apart."""

from goodenough.lengths import look_at


def nearest(lengths, place, some):
    return min([lengths[place][other] for other in some])


def reach(lengths, some):
    return max([nearest(lengths, place, some) for place in range(len(lengths))])


def least_apart(lengths, some):
    # Each with those behind it: so a place that stands once is never held against itself.
    return min([nearest(lengths, some[k], some[k + 1:]) for k in range(len(some) - 1)])


def farthest(lengths, chosen):
    best = None
    most = None
    for place in range(len(lengths)):
        if place not in chosen:
            length = nearest(lengths, place, chosen)
            # Only a greater length displaces one, so of like lengths the least number stays.
            if most is None or length > most:
                best = place
                most = length
    return best


def choose(lengths, many):
    chosen = [0]
    while len(chosen) < many:
        chosen.append(farthest(lengths, chosen))
    return chosen


def farthest_next(lengths, many):
    look_at(lengths)
    return choose(lengths, many)


def radius(lengths, some):
    look_at(lengths)
    return reach(lengths, some)


def far_apart(lengths, many):
    look_at(lengths)
    return choose(lengths, min(many + 1, len(lengths)))
