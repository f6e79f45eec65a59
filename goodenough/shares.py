"""Exact fractions: tuples (top, bottom) in their shortest form, the bottom above 0."""

from goodenough.errors import NoShare


def common_factor(one, other):
    great = abs(one)
    small = abs(other)
    while small > 0:
        rest = great % small
        great = small
        small = rest
    return great


def common_multiple(one, other):
    return one * (other // common_factor(one, other))


def share(top, bottom):
    if bottom == 0:
        raise NoShare("no fraction has nought for its bottom")
    factor = common_factor(top, bottom)
    # A factor below 0 turns both signs round, so that the sign stands at the top.
    if bottom < 0:
        factor = -factor
    return (top // factor, bottom // factor)


def plus(one, other):
    return share(one[0] * other[1] + other[0] * one[1], one[1] * other[1])


def minus(one, other):
    return share(one[0] * other[1] - other[0] * one[1], one[1] * other[1])


def times(one, other):
    return share(one[0] * other[0], one[1] * other[1])


def over(one, other):
    # Where the other is nought, its top makes this bottom 0, which share refuses.
    return share(one[0] * other[1], one[1] * other[0])


def less(one, other):
    # Bottoms are above 0, so multiplying by both of them keeps the order.
    return one[0] * other[1] < other[0] * one[1]


def rounded_up(one):
    # Whole division rounds down; down for the negative is up for the fraction.
    return -(-one[0] // one[1])


def steps_sum(count):
    total = (0, 1)
    for step in range(1, count + 1):
        total = plus(total, (1, step))
    return total
