"""What several test files need: looks at answers' kinds, and questions made by a seed."""

import copy
import itertools
import math
from fractions import Fraction
from random import Random

from goodenough.errors import NoLengths, NoRoom
from goodenough.questions import (BenchQuestion, BinQuestion, CoverQuestion, PlaceQuestion, Question, RoundQuestion,
                                  SackQuestion)


def as_fraction(told):
    return Fraction(told[0], told[1])


def as_told(fraction):
    return (fraction.numerator, fraction.denominator)


def assert_shortest(case, told):
    case.assertIs(type(told), tuple)
    case.assertEqual(len(told), 2)
    case.assertIs(type(told[0]), int)
    case.assertIs(type(told[1]), int)
    case.assertGreater(told[1], 0)
    case.assertEqual(math.gcd(told[0], told[1]), 1)


def assert_whole_numbers(case, told):
    case.assertIs(type(told), list)
    for number in told:
        case.assertIs(type(number), int)


def assert_pairs(case, told):
    case.assertIs(type(told), list)
    for pair in told:
        case.assertIs(type(pair), tuple)
        case.assertEqual([type(part) for part in pair], [int, int])


def assert_unchanged(case, ask, given):
    """What is handed in stays as it was, and a told list that is changed changes no later answer."""
    kept = copy.deepcopy(given)
    told = ask(*given)
    case.assertEqual(given, kept)
    first = copy.deepcopy(told)
    if isinstance(told, list):
        told.append(99)
        told.reverse()
    again = ask(*given)
    case.assertEqual(again, first)
    if isinstance(again, list):
        again.clear()
    case.assertEqual(ask(*given), first)
    case.assertEqual(given, kept)


def assert_fractions(case, told):
    case.assertIs(type(told), list)
    for fraction in told:
        assert_shortest(case, fraction)


def coverable(random, many, count, most_price):
    """A question of many things in which each thing is in a set, things in any order."""
    sets = []
    for _ in range(count):
        things = random.sample(range(many), random.randint(0, many))
        sets.append((random.randint(0, most_price), things))
    held = {thing for _, things in sets for thing in things}
    missing = [thing for thing in range(many) if thing not in held]
    if missing:
        random.shuffle(missing)
        sets.append((random.randint(0, most_price), missing))
    return sets


def questions(seed, count, most_things, most_sets, most_price):
    random = Random(seed)
    made = []
    for _ in range(count):
        many = random.randint(0, most_things)
        made.append((many, coverable(random, many, random.randint(0, most_sets), most_price)))
    return made


def touch_questions(seed, count, most_points, most_lines, most_price):
    random = Random(seed)
    made = []
    for _ in range(count):
        points = random.randint(0, most_points)
        prices = [random.randint(0, most_price) for _ in range(points)]
        lines = []
        if points > 1:
            lines = [tuple(random.sample(range(points), 2)) for _ in range(random.randint(0, most_lines))]
        made.append((prices, lines))
    return made


def closed_up(table):
    """The same places with each length the shortest way by any others, so that the three-sided rule holds."""
    count = len(table)
    lengths = [list(row) for row in table]
    for by in range(count):
        for one in range(count):
            for other in range(count):
                lengths[one][other] = min(lengths[one][other], lengths[one][by] + lengths[by][other])
    return lengths


def made_lengths(random, count, most):
    table = [[0] * count for _ in range(count)]
    for one in range(count):
        for other in range(one):
            table[one][other] = table[other][one] = random.randint(0, most)
    return closed_up(table)


def length_tables(seed, count, most_places, most):
    random = Random(seed)
    return [made_lengths(random, random.randint(1, most_places), most) for _ in range(count)]


# Each is refused by one rule alone: a place away from itself, two unlike lengths, three sides.
BAD_LENGTHS = (
    [[1]],
    [[0, 3], [3, 1]],
    [[2, 3], [3, 0]],
    [[0, 1], [2, 0]],
    [[0, 2], [1, 0]],
    [[0, 0], [1, 0]],
    [[0, 5, 5], [5, 0, 5], [5, 6, 0]],
    [[0, 2, 5], [2, 0, 2], [5, 2, 0]],
    [[0, 2, 2], [2, 0, 5], [2, 5, 0]],
    [[0, 5, 2], [5, 0, 2], [2, 2, 0]],
    [[0, 0, 1], [0, 0, 0], [1, 0, 0]],
    [[0, 10 ** 18, 1], [10 ** 18, 0, 10 ** 18 - 2], [1, 10 ** 18 - 2, 0]],
)


def spoiled(lengths, one, other, by):
    """The same lengths, but with both lengths between two places greater by so much."""
    made = [list(row) for row in lengths]
    made[one][other] += by
    made[other][one] += by
    return made


def assert_lengths_refused(case, ask):
    """ask takes lengths alone: bad ones are refused, and good ones are taken behind a refusal."""
    good = [[0, 2, 4], [2, 0, 2], [4, 2, 0]]
    wanted = ask(good)
    bad = list(BAD_LENGTHS) + [spoiled(good, 0, 2, 1), closed_bad(12, 11, 3), closed_bad(12, 0, 7)]
    for lengths in bad:
        kept = copy.deepcopy(lengths)
        with case.assertRaises(NoLengths):
            ask(lengths)
        case.assertEqual(lengths, kept)
        case.assertEqual(ask(good), wanted)


def closed_bad(count, one, other):
    """Places in a line, two of them by one farther apart than the way between them is."""
    line = [[abs(a - b) for b in range(count)] for a in range(count)]
    return spoiled(line, one, other, 1)


def hang_together(count, roads):
    """Whether one comes from place 0 to each by these roads: point 14's word, grown step by step."""
    reached = {0}
    for _ in range(count):
        for one, other in roads:
            if one in reached or other in reached:
                reached |= {one, other}
    return len(reached) == count


def all_pairings(places):
    if not places:
        yield []
        return
    first = places[0]
    for k in range(1, len(places)):
        for rest in all_pairings(places[1:k] + places[k + 1:]):
            yield [(first, places[k])] + rest


def all_rounds(count):
    for rest in itertools.permutations(range(1, count)):
        yield [0] + list(rest)


def size_lists(seed, count, most_sizes, most):
    random = Random(seed)
    return [[random.randint(1, most) for _ in range(random.randint(0, most_sizes))] for _ in range(count)]


def sums_of(sizes, put):
    """What lies on each bench, or in each bin, that has anything."""
    sums = {}
    for size, number in zip(sizes, put):
        sums[number] = sums.get(number, 0) + size
    return sums


def all_puttings(count, many):
    """All puttings of so many things to so many benches, these being numbered as they are opened."""
    def further(put, used):
        if len(put) == count:
            yield put
            return
        for number in range(min(used + 1, many)):
            yield from further(put + [number], max(used, number + 1))
    return further([], 0)


def assert_no_room(case, ask):
    """ask takes sizes and room: refused with the least number of a thing too great, and only then."""
    wanted = ask([3, 5, 1], 5)
    for sizes, room, thing in (([6], 5, 0), ([5, 6], 5, 1), ([6, 7, 8], 5, 0), ([1, 2, 9, 1, 8], 7, 2), ([2], 1, 0),
                               ([1, 9, 10], 8, 1), ([1] * 39 + [2], 1, 39), ([10 ** 18], 10 ** 18 - 1, 0)):
        kept = list(sizes)
        with case.assertRaises(NoRoom) as caught:
            ask(sizes, room)
        case.assertEqual(caught.exception.thing, thing)
        case.assertIs(type(caught.exception.thing), int)
        case.assertEqual(sizes, kept)
        case.assertEqual(ask([3, 5, 1], 5), wanted)


def sack_questions(seed, count, most_things, most_worth, most_weight):
    random = Random(seed)
    made = []
    for _ in range(count):
        things = []
        for _ in range(random.randint(0, most_things)):
            things.append((random.randint(0, most_worth), random.randint(1, most_weight)))
        made.append((random.randint(0, 3 * most_weight), things))
    return made


def all_fillings(room, things):
    for size in range(len(things) + 1):
        for taken in itertools.combinations(range(len(things)), size):
            if sum(things[number][1] for number in taken) <= room:
                yield taken


def all_cases(question, case=()):
    """All cases that come of one by ways, itself first."""
    yield case
    if len(case) < question.steps():
        for way in question.ways(case):
            yield from all_cases(question, case + (way,))


def whole_cases(question):
    return [case for case in all_cases(question) if len(case) == question.steps()]


def small_questions(seed, count):
    """Questions of each kind, each small enough for all its cases to be gone through."""
    random = Random(seed)
    made = [Question()]
    for many, sets in questions(seed, count, 5, 5, 6):
        made.append(CoverQuestion(many, sets))
    for works in size_lists(seed, count, 5, 7):
        made.append(BenchQuestion(works, random.randint(1, 4)))
    for sizes in size_lists(seed + 1, count, 5, 7):
        made.append(BinQuestion(sizes, random.randint(7, 12)))
    for room, things in sack_questions(seed, count, 6, 9, 6):
        made.append(SackQuestion(room, things))
    for lengths in length_tables(seed, count, 5, 9):
        made.append(RoundQuestion(lengths))
        made.append(PlaceQuestion(lengths, random.randint(1, len(lengths))))
    return made


ODD_NUMBERS = (-1, -2, 40, 99, -(10 ** 99), 10 ** 99, 10 ** 100 - 1)


def spoiled_list(random, numbers):
    """A list of whole numbers with one or two odd changes: left out, twice, another, in another order, more."""
    made = list(numbers)
    for _ in range(random.randint(1, 2)):
        spot = random.randint(0, len(made))
        change = random.randrange(7)
        if change == 0:
            made[spot:spot + 1] = []
        elif change == 1:
            made[spot:spot] = made[spot:spot + 1]
        elif change == 2:
            made.insert(spot, random.choice(ODD_NUMBERS))
        elif change == 3:
            made[spot:spot + 1] = [random.choice(ODD_NUMBERS)]
        elif change == 4:
            made[spot:spot + 1] = [number + random.choice((-1, 1)) for number in made[spot:spot + 1]]
        elif change == 5:
            random.shuffle(made)
        else:
            made[spot:spot] = [random.randint(0, 5)]
    return made


def spoiled_pairs(random, pairs):
    """A list of pairs with one of its numbers changed, or a pair left out, twice, or turned round."""
    made = list(pairs)
    change = random.randrange(4)
    if change == 0 or not made:
        made.insert(random.randint(0, len(made)), (random.randint(-1, 5), random.randint(-1, 5)))
    elif change == 1:
        made.pop(random.randrange(len(made)))
    elif change == 2:
        flat = spoiled_list(random, [number for pair in made for number in pair])
        made = [(flat[k], flat[k + 1]) for k in range(0, len(flat) - 1, 2)]
    else:
        spot = random.randrange(len(made))
        made[spot] = made[spot][::-1]
    return made
