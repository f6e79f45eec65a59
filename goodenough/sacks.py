"""A sack filled by worth a weight, its weighing, and the bound that a price gives to all fillings."""

from goodenough.shares import less, minus, plus, share, times


def fitting_alone(room, things):
    return [number for number, thing in enumerate(things) if thing[1] <= room]


def rate_of(thing):
    return share(thing[0], thing[1])


def by_rate(room, things):
    # Each goes ahead of those with a lesser rate alone, so like ones stay in the list's order.
    order = []
    for number in fitting_alone(room, things):
        spot = len(order)
        while spot > 0 and less(rate_of(things[order[spot - 1]]), rate_of(things[number])):
            spot -= 1
        order.insert(spot, number)
    return order


def taking(room, things):
    # What was taken and what was passed over come of one walk, so both are told together.
    left = room
    taken = []
    passed = []
    for number in by_rate(room, things):
        if things[number][1] <= left:
            left -= things[number][1]
            taken.append(number)
        else:
            passed.append(number)
    return (taken, passed)


def by_weight(room, things):
    taken = taking(room, things)[0]
    worth = sum([things[number][0] for number in taken])
    single = None
    # Only a greater worth displaces one, so of like ones the first in the list stays.
    for number in fitting_alone(room, things):
        if things[number][0] > worth:
            single = number
            worth = things[number][0]
    if single is None:
        return sorted(taken)
    return [single]


def weighing(room, things):
    passed = taking(room, things)[1]
    if len(passed) == 0:
        return (0, 1)
    return rate_of(things[passed[0]])


def bound_of(room, things, price):
    bound = times(price, (room, 1))
    for number in fitting_alone(room, things):
        above = minus((things[number][0], 1), times(price, (things[number][1], 1)))
        if less((0, 1), above):
            bound = plus(bound, above)
    return bound
