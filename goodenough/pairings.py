"""Odd ends of roads, and pairings of the least length."""

from goodenough.lengths import look_at


def odd_ends(roads):
    odd = {}
    for road in roads:
        for place in road:
            odd[place] = not odd.get(place, False)
    return sorted([place for place in odd if odd[place]])


class KnownPairs:

    def __init__(self, lengths):
        self.lengths = lengths
        # Many ways of pairing some places leave the same rest: what is found for it is kept.
        self.known = {(): (0, ())}

    def best(self, rest):
        if rest not in self.known:
            self.known[rest] = min([self.best_with(rest, k) for k in range(1, len(rest))])
        return self.known[rest]

    def best_with(self, rest, k):
        others = self.best(rest[1:k] + rest[k + 1:])
        pair = (rest[0], rest[k])
        return (self.lengths[pair[0]][pair[1]] + others[0], (pair,) + others[1])


def least_pairing(lengths, some):
    look_at(lengths)
    # Sorted, so that the order in which the places are handed in doesn't matter.
    return list(KnownPairs(lengths).best(tuple(sorted(some)))[1])
