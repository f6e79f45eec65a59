"""The closed walk along the least tree and the pairs of its odd ends, and the round that comes of it."""

from goodenough.pairings import least_pairing, odd_ends
from goodenough.trees import least_tree


def road_at(roads, place):
    for number, road in enumerate(roads):
        if place in road:
            return number
    return None


def other_end(road, place):
    return road[1] if road[0] == place else road[0]


def walk_along(roads):
    # At each place an even number of roads ends: so one is stuck only where all roads of a place are gone, and
    # places are told as one steps back from there, which puts the rounds that are left over in between.
    left = list(roads)
    going = [0]
    walk = []
    while len(going) > 0:
        place = going[-1]
        number = road_at(left, place)
        if number is None:
            walk.append(going.pop())
        else:
            road = left.pop(number)
            going.append(other_end(road, place))
    return walk


def closed_walk(lengths):
    tree = least_tree(lengths)
    return walk_along(tree + least_pairing(lengths, odd_ends(tree)))


def paired_round(lengths):
    # A dict keeps the order in which its keys came first.
    first_come = {}
    for place in closed_walk(lengths):
        first_come[place] = True
    return list(first_come)
