"""Odd ends of roads, and pairings of the least length."""

from goodenough.lengths import look_at


def odd_ends(roads):
    odd = {}
    for road in roads:
        for place in road:
            odd[place] = not odd.get(place, False)
    return sorted([place for place in odd if odd[place]])


def best_pairs(lengths, rest, known):
    # What is known of a rest is kept, as many ways of pairing the others leave the same rest.
    if len(rest) == 0:
        return (0, ())
    if rest not in known:
        first = rest[0]
        offers = []
        for k in range(1, len(rest)):
            others = best_pairs(lengths, rest[1:k] + rest[k + 1:], known)
            offers.append((lengths[first][rest[k]] + others[0], ((first, rest[k]),) + others[1]))
        known[rest] = min(offers)
    return known[rest]


def least_pairing(lengths, some):
    look_at(lengths)
    # Sorted, so that the order in which the places are handed in doesn't matter.
    return list(best_pairs(lengths, tuple(sorted(some)), {})[1])
