"""The house: to a question's text its answer near the best, or the cost of the best itself, as a text."""

from goodenough.benches import bench_bound, heaviest, put_longest_first
from goodenough.bins import bin_bound, greatest_first
from goodenough.cases import best_by_cases
from goodenough.covers import cover, cover_prices, cover_share, price_of
from goodenough.lengths import roads_length, round_length
from goodenough.pairings import least_pairing, odd_ends
from goodenough.places import far_apart, farthest_next, least_apart, radius
from goodenough.questions import BenchQuestion, BinQuestion, CoverQuestion, PlaceQuestion, RoundQuestion, SackQuestion
from goodenough.rounds import paired_round
from goodenough.sacks import bound_of, by_weight, weighing
from goodenough.shares import over, plus, share
from goodenough.texts import read, shown_amount
from goodenough.touches import as_sets, line_prices, touching
from goodenough.trees import least_tree


def four_lines(word, numbers, cost, bound, near):
    rows = [" ".join([word] + [str(number) for number in numbers])]
    for name, amount in (("cost", cost), ("bound", bound), ("share", near)):
        shown = shown_amount(amount)
        rows.append(f"{name} {shown}")
    return "\n".join(rows)


def cover_answer(unit, many, sets):
    taken = cover(many, sets)
    total = (0, 1)
    for price in cover_prices(many, sets):
        total = plus(total, price)
    return four_lines("take", taken, share(price_of(sets, taken), unit), over(total, (unit, 1)), cover_share(sets))


def touch_answer(unit, prices, lines):
    points = touching(prices, lines)
    cost = sum([prices[point] for point in points])
    paid = sum(line_prices(prices, lines))
    return four_lines("touch", points, share(cost, unit), share(paid, unit), (2, 1))


def round_answer(unit, lengths):
    way = paired_round(lengths)
    tree = least_tree(lengths)
    pairs = least_pairing(lengths, odd_ends(tree))
    bound = max(roads_length(lengths, tree), 2 * roads_length(lengths, pairs))
    return four_lines("round", way, share(round_length(lengths, way), unit), share(bound, unit), (3, 2))


def places_answer(unit, lengths, many):
    chosen = farthest_next(lengths, many)
    apart = 0
    if len(lengths) > many:
        apart = least_apart(lengths, far_apart(lengths, many))
    return four_lines("choose", chosen, share(radius(lengths, chosen), unit), share(apart, 2 * unit), (2, 1))


def benches_answer(unit, works, many):
    put = put_longest_first(works, many)
    cost = share(heaviest(works, many, put), unit)
    bound = share(bench_bound(works, many), unit)
    return four_lines("put", put, cost, bound, share(3 * many - 1, 2 * many))


def bins_answer(sizes, room):
    put = greatest_first(sizes, room)
    return four_lines("put", put, (len(set(put)), 1), (bin_bound(sizes, room), 1), (3, 2))


def sack_answer(unit, room, things):
    taken = by_weight(room, things)
    worth = sum([things[number][0] for number in taken])
    bound = bound_of(room, things, weighing(room, things))
    return four_lines("take", taken, share(worth, unit), over(bound, (unit, 1)), (1, 2))


def house_answer(text):
    asked = read(text)
    kind = asked[0]
    unit = asked[1]
    given = asked[2]
    if kind == "cover":
        return cover_answer(unit, given[0], given[1])
    if kind == "touch":
        return touch_answer(unit, given[0], given[1])
    if kind == "round":
        return round_answer(unit, given[0])
    if kind == "places":
        return places_answer(unit, given[0], given[1])
    if kind == "benches":
        return benches_answer(unit, given[0], given[1])
    if kind == "bins":
        return bins_answer(given[0], given[1])
    return sack_answer(unit, given[0], given[1])


def question_of(kind, given):
    if kind == "cover":
        return CoverQuestion(given[0], given[1])
    if kind == "touch":
        return CoverQuestion(len(given[1]), as_sets(given[0], given[1]))
    if kind == "round":
        return RoundQuestion(given[0])
    if kind == "places":
        return PlaceQuestion(given[0], given[1])
    if kind == "benches":
        return BenchQuestion(given[0], given[1])
    if kind == "bins":
        return BinQuestion(given[0], given[1])
    return SackQuestion(given[0], given[1])


def best_amount(kind, unit, given, cost):
    # A number of bins isn't an amount; a sack's cost is the worth of what is left out.
    if kind == "bins":
        return (cost, 1)
    if kind == "sack":
        return share(sum([thing[0] for thing in given[1]]) - cost, unit)
    return share(cost, unit)


def best_told(text, most=2000):
    asked = read(text)
    best = best_by_cases(question_of(asked[0], asked[2]), most)
    shown = shown_amount(best_amount(asked[0], asked[1], asked[2], best[1]))
    return f"best {shown}"
