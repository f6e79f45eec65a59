"""Questions whose best answer is found by parted cases: how a case goes on, and what it costs at least."""

from goodenough.benches import greatest_order, heaviest
from goodenough.bins import refuse_too_great
from goodenough.covers import price_of, refuse_missing
from goodenough.lengths import look_at, round_length
from goodenough.places import reach
from goodenough.shares import rounded_up, share


def copied_lengths(lengths):
    return [list(row) for row in lengths]


def put_by_list(order, case):
    put = [0 for number in order]
    for number, chosen in zip(order, case):
        put[number] = chosen
    return put


def chosen_by(case, choice):
    return [number for number, made in enumerate(case) if made == choice]


def behind_last(case):
    return case[-1] + 1 if len(case) > 0 else 0


def least_prices(sets):
    # For each step, the least price at which each thing is in a set that isn't chosen about yet.
    rows = [{}]
    for price, things in reversed(sets):
        row = dict(rows[-1])
        for thing in things:
            row[thing] = min(price, row.get(thing, price))
        rows.append(row)
    return list(reversed(rows))


class Question:

    def steps(self):
        return 0

    def ways(self, case):
        return []

    def low(self, case):
        return 0

    def answer(self, case):
        return []


class CoverQuestion(Question):

    def __init__(self, many, sets):
        refuse_missing(many, sets)
        self.many = many
        self.sets = [(price, list(things)) for price, things in sets]
        self.cheapest = least_prices(self.sets)

    def not_covered(self, case):
        held = {}
        for number in chosen_by(case, 1):
            for thing in self.sets[number][1]:
                held[thing] = True
        return [thing for thing in range(self.many) if thing not in held]

    def steps(self):
        return len(self.sets)

    def ways(self, case):
        later = self.cheapest[len(case) + 1]
        here = self.sets[len(case)][1]
        for thing in self.not_covered(case):
            if thing in here and thing not in later:
                return [1]
        return [0, 1]

    def low(self, case):
        still = self.cheapest[len(case)]
        besides = max([still.get(thing, 0) for thing in self.not_covered(case)], default=0)
        return price_of(self.sets, chosen_by(case, 1)) + besides

    def answer(self, case):
        return chosen_by(case, 1)


class BenchQuestion(Question):

    def __init__(self, works, many):
        self.many = many
        self.order = greatest_order(works)
        self.falling = [works[number] for number in self.order]
        self.least = rounded_up(share(sum(works), many))

    def steps(self):
        return len(self.falling)

    def ways(self, case):
        used = len(set(case))
        return list(range(min(used + 1, self.many)))

    def low(self, case):
        so_far = self.falling[:len(case)]
        return max(self.least, heaviest(so_far, self.many, case))

    def answer(self, case):
        return put_by_list(self.order, case)


class BinQuestion(Question):

    def __init__(self, sizes, room):
        refuse_too_great(sizes, room)
        self.room = room
        self.order = greatest_order(sizes)
        self.falling = [sizes[number] for number in self.order]

    def free(self, case):
        left = [self.room for number in range(len(set(case)))]
        for size, chosen in zip(self.falling, case):
            left[chosen] -= size
        return left

    def steps(self):
        return len(self.falling)

    def ways(self, case):
        left = self.free(case)
        size = self.falling[len(case)]
        return [number for number, space in enumerate(left) if size <= space] + [len(left)]

    def low(self, case):
        left = self.free(case)
        beyond = sum(self.falling[len(case):]) - sum(left)
        return len(left) + max(0, rounded_up(share(beyond, self.room)))

    def answer(self, case):
        return put_by_list(self.order, case)


class SackQuestion(Question):

    def __init__(self, room, things):
        self.room = room
        self.things = list(things)

    def steps(self):
        return len(self.things)

    def ways(self, case):
        taken = sum([self.things[number][1] for number in chosen_by(case, 0)])
        if taken + self.things[len(case)][1] <= self.room:
            return [0, 1]
        return [1]

    def low(self, case):
        return sum([self.things[number][0] for number in chosen_by(case, 1)])

    def answer(self, case):
        return chosen_by(case, 0)


class RoundQuestion(Question):

    def __init__(self, lengths):
        look_at(lengths)
        self.lengths = copied_lengths(lengths)

    def steps(self):
        return len(self.lengths) - 1

    def ways(self, case):
        return [place for place in range(1, len(self.lengths)) if place not in case]

    def low(self, case):
        return round_length(self.lengths, self.answer(case))

    def answer(self, case):
        return [0] + list(case)


class PlaceQuestion(Question):

    def __init__(self, lengths, many):
        look_at(lengths)
        self.lengths = copied_lengths(lengths)
        self.many = many

    def steps(self):
        return self.many

    def ways(self, case):
        to_come = self.many - len(case)
        return list(range(behind_last(case), len(self.lengths) - to_come + 1))

    def low(self, case):
        some = list(case)
        if len(case) < self.many:
            some += list(range(behind_last(case), len(self.lengths)))
        return reach(self.lengths, some)

    def answer(self, case):
        return list(case)
