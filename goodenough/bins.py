"""Things put into the first bin that fits, in order and greatest first, and the bound of bins."""

from goodenough.benches import greatest_order
from goodenough.errors import NoRoom
from goodenough.shares import rounded_up, share


def refuse_too_great(sizes, room):
    for number, size in enumerate(sizes):
        if size > room:
            raise NoRoom(number)


def first_that_fits(free, size):
    for number, space in enumerate(free):
        if size <= space:
            return number
    return len(free)


def put_by(sizes, room, order):
    free = []
    put = [0 for size in sizes]
    for number in order:
        chosen = first_that_fits(free, sizes[number])
        if chosen == len(free):
            free.append(room)
        free[chosen] -= sizes[number]
        put[number] = chosen
    return put


def first_fit(sizes, room):
    refuse_too_great(sizes, room)
    return put_by(sizes, room, list(range(len(sizes))))


def greatest_first(sizes, room):
    refuse_too_great(sizes, room)
    return put_by(sizes, room, greatest_order(sizes))


def bin_bound(sizes, room):
    refuse_too_great(sizes, room)
    # No two things greater than half of the room fit into one bin.
    great = [size for size in sizes if 2 * size > room]
    return max(rounded_up(share(sum(sizes), room)), len(great))
