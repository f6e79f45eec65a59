"""Covers: sets taken until each thing is in one, and the paper that shows how near the best they are."""

from goodenough.errors import NoCover
from goodenough.shares import less, over, share, steps_sum


def refuse_missing(many, sets):
    held = {}
    for one in sets:
        for thing in one[1]:
            held[thing] = True
    for thing in range(many):
        if thing not in held:
            raise NoCover(thing)


def still_left(things, left):
    return [thing for thing in things if thing in left]


def cheapest_set(sets, left):
    best = None
    least = None
    for number, one in enumerate(sets):
        size = len(still_left(one[1], left))
        if size > 0:
            rate = share(one[0], size)
            # Only a lesser rate displaces one, so of like rates the least number stays.
            if least is None or less(rate, least):
                best = number
                least = rate
    return best


def takings(many, sets):
    # Each taking keeps the things that it covered first: what they pay depends on their count.
    refuse_missing(many, sets)
    left = {}
    for thing in range(many):
        left[thing] = True
    taken = []
    while len(left) > 0:
        number = cheapest_set(sets, left)
        fresh = still_left(sets[number][1], left)
        taken.append((number, fresh))
        for thing in fresh:
            left.pop(thing)
    return taken


def cover(many, sets):
    return [number for number, fresh in takings(many, sets)]


def paid_by_things(many, sets):
    paid = [(0, 1) for thing in range(many)]
    for number, fresh in takings(many, sets):
        rate = share(sets[number][0], len(fresh))
        for thing in fresh:
            paid[thing] = rate
    return paid


def cover_share(sets):
    return steps_sum(max([len(one[1]) for one in sets], default=0))


def cover_prices(many, sets):
    # Without things the share may be nought, but then there is nothing to divide by it.
    whole = cover_share(sets)
    return [over(paid, whole) for paid in paid_by_things(many, sets)]


def price_of(sets, chosen):
    return sum([sets[number][0] for number in chosen])
