"""Lengths from each place to each: the look at them, and how long ways, rounds and roads are."""

from goodenough.errors import NoLengths


def look_at(lengths):
    count = len(lengths)
    for a in range(count):
        if lengths[a][a] != 0:
            raise NoLengths("a place is away from itself")
    for a in range(count):
        for b in range(a):
            if lengths[a][b] != lengths[b][a]:
                raise NoLengths("two places have two unlike lengths")
    for a in range(count):
        for b in range(count):
            for c in range(count):
                if lengths[a][b] + lengths[b][c] < lengths[a][c]:
                    raise NoLengths("a way by a third place is shorter than the straight one")


def way_length(lengths, way):
    return sum([lengths[way[k]][way[k + 1]] for k in range(len(way) - 1)])


def round_length(lengths, way):
    # A round of one place goes nowhere, whatever its length to itself is said to be.
    if len(way) == 1:
        return 0
    return way_length(lengths, way) + lengths[way[-1]][way[0]]


def roads_length(lengths, roads):
    return sum([lengths[a][b] for a, b in roads])
