"""The least tree that hangs all places together, and the round that walks along it."""

from goodenough.lengths import look_at


def shortest_road(lengths, within, without):
    # Tuples are compared by length first, then by the place without, then by the place within.
    offers = []
    for outer in without:
        for inner in within:
            offers.append((lengths[inner][outer], outer, inner))
    least = min(offers)
    return (least[2], least[1])


def least_tree(lengths):
    look_at(lengths)
    within = [0]
    without = list(range(1, len(lengths)))
    tree = []
    while len(without) > 0:
        road = shortest_road(lengths, within, without)
        tree.append(road)
        within.append(road[1])
        without.remove(road[1])
    return tree


def walked_round(lengths):
    tree = least_tree(lengths)
    walked = []
    waiting = [0]
    while len(waiting) > 0:
        place = waiting.pop()
        walked.append(place)
        # The last one waiting is walked to first, so the first road's place has to wait last.
        for inner, outer in reversed(tree):
            if inner == place:
                waiting.append(outer)
    return walked
