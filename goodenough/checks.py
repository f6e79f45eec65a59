"""The checker: None where an answer with its paper holds, else the first word that is due.

It asks none of the finders: what it has to know of the best, it sees from the question and the paper alone.
"""

from goodenough.benches import bench_bound, heaviest
from goodenough.bins import bin_bound, refuse_too_great
from goodenough.cases import parts_all
from goodenough.covers import cover_share, price_of
from goodenough.hangs import hang_together
from goodenough.lengths import look_at, roads_length, round_length
from goodenough.pairings import odd_ends
from goodenough.places import least_apart, reach
from goodenough.sacks import bound_of
from goodenough.shares import common_multiple, less


def all_below(numbers, count):
    return all([0 <= number < count for number in numbers])


def unlike_below(numbers, count):
    return all_below(numbers, count) and len(set(numbers)) == len(numbers)


def leaves_open(many, sets, chosen):
    held = {}
    for number in chosen:
        for thing in sets[number][1]:
            held[thing] = True
    return any([thing not in held for thing in range(many)])


def tops_over(prices, bottom):
    return [top * (bottom // below) for top, below in prices]


def check_cover(many, sets, chosen, prices):
    if not unlike_below(chosen, len(sets)):
        return "chosen"
    if leaves_open(many, sets, chosen):
        return "open"
    if len(prices) != many or any([price[0] < 0 for price in prices]):
        return "prices"
    # Over one common bottom the prices are whole numbers, which stay short as they are added up.
    bottom = 1
    for price in prices:
        bottom = common_multiple(bottom, price[1])
    tops = tops_over(prices, bottom)
    for price, things in sets:
        if sum([tops[thing] for thing in things]) > price * bottom:
            return "over"
    most = cover_share(sets)
    if price_of(sets, chosen) * bottom * most[1] > most[0] * sum(tops):
        return "share"
    return None


def paid_at(point, lines, paid):
    return sum([pay for line, pay in zip(lines, paid) if point in line])


def check_touch(prices, lines, chosen, paid):
    if not unlike_below(chosen, len(prices)):
        return "chosen"
    if any([a not in chosen and b not in chosen for a, b in lines]):
        return "open"
    if len(paid) != len(lines) or any([pay < 0 for pay in paid]):
        return "paid"
    for point, price in enumerate(prices):
        if paid_at(point, lines, paid) > price:
            return "over"
    if sum([prices[point] for point in chosen]) > 2 * sum(paid):
        return "share"
    return None


def both_ends(roads):
    ends = []
    for road in roads:
        ends.extend(road)
    return ends


def is_tree(count, roads):
    return len(roads) == count - 1 and all_below(both_ends(roads), count) and hang_together(count, roads)


def shorter_instead(lengths, rest, road):
    count = len(lengths)
    length = lengths[road[0]][road[1]]
    for a in range(count):
        for b in range(a):
            if lengths[a][b] < length and hang_together(count, rest + [(a, b)]):
                return True
    return False


def is_least_tree(lengths, roads):
    # Where a tree is longer than another, some one road of it can be put in for by a shorter one.
    for k in range(len(roads)):
        if shorter_instead(lengths, roads[:k] + roads[k + 1:], roads[k]):
            return False
    return True


def paired_off(lengths, layer):
    # Of the rests of a layer, each with the least length so far, the rests that are left two places later.
    later = {}
    for rest, length in layer.items():
        for k in range(1, len(rest)):
            smaller = rest[1:k] + rest[k + 1:]
            longer = length + lengths[rest[0]][rest[k]]
            later[smaller] = min(longer, later.get(smaller, longer))
    return later


def least_paired_length(lengths, some):
    layer = {tuple(some): 0}
    while () not in layer:
        layer = paired_off(lengths, layer)
    return layer[()]


def check_round(lengths, way, roads, pairs):
    look_at(lengths)
    if sorted(way) != list(range(len(lengths))):
        return "round"
    if not is_tree(len(lengths), roads):
        return "tree"
    if not is_least_tree(lengths, roads):
        return "shorter"
    odd = odd_ends(roads)
    if sorted(both_ends(pairs)) != odd:
        return "pairs"
    paired = roads_length(lengths, pairs)
    if paired > least_paired_length(lengths, odd):
        return "fewer"
    if round_length(lengths, way) > roads_length(lengths, roads) + paired:
        return "share"
    return None


def check_benches(works, many, put, bound):
    if len(put) != len(works) or not all_below(put, many):
        return "put"
    if bound > bench_bound(works, many):
        return "bound"
    if heaviest(works, many, put) * 2 * many > bound * (3 * many - 1):
        return "share"
    return None


def is_bin_putting(sizes, put):
    # As many unlike numbers as the greatest of them and one more: so none below it is left out.
    if len(put) != len(sizes) or not all_below(put, len(sizes)):
        return False
    return len(set(put)) == max(put, default=-1) + 1


def is_too_full(sizes, room, put):
    return len(sizes) > 0 and heaviest(sizes, len(sizes), put) > room


def check_bins(sizes, room, put, bound):
    refuse_too_great(sizes, room)
    if not is_bin_putting(sizes, put):
        return "put"
    if is_too_full(sizes, room, put):
        return "full"
    if bound > bin_bound(sizes, room):
        return "bound"
    if 2 * len(set(put)) > 3 * bound:
        return "share"
    return None


def check_sack(room, things, taken, price):
    if not unlike_below(taken, len(things)):
        return "taken"
    if sum([things[number][1] for number in taken]) > room:
        return "full"
    if price[0] < 0:
        return "price"
    worth = sum([things[number][0] for number in taken])
    if less((2 * worth, 1), bound_of(room, things, price)):
        return "share"
    return None


def check_places(lengths, many, chosen, far):
    look_at(lengths)
    count = len(lengths)
    if len(chosen) != many or not unlike_below(chosen, count):
        return "chosen"
    if count <= many:
        return None
    if len(far) != many + 1 or not unlike_below(far, count):
        return "far"
    if reach(lengths, chosen) > least_apart(lengths, far):
        return "share"
    return None


def check_best(question, case, cost, closed):
    if not parts_all(question, closed):
        return "parts"
    if any([question.low(one) < cost for one in closed]):
        return "low"
    if case not in closed or len(case) != question.steps() or question.low(case) != cost:
        return "case"
    return None
