"""Points 32 to 40 but for the papers of all finders, which test_whole has; NoLengths and NoRoom where told."""

import importlib
import itertools
import pathlib
import unittest
from fractions import Fraction
from random import Random
from unittest import mock

from goodenough.cases import best_by_cases
from goodenough.checks import (check_benches, check_best, check_bins, check_cover, check_places, check_round,
                               check_sack, check_touch)
from goodenough.errors import EnoughError
from goodenough.questions import CoverQuestion, PlaceQuestion, Question, SackQuestion
from helper import (all_pairings, as_fraction, as_told, assert_lengths_refused, assert_no_room, assert_unchanged,
                    hang_together, length_tables, questions, sack_questions, size_lists, small_questions,
                    spoiled_list, spoiled_pairs, sums_of, touch_questions)

GREAT = 10 ** 99
GREATEST = 10 ** 18


class CheckTest(unittest.TestCase):

    def assert_word(self, told, word):
        if word is None:
            self.assertIsNone(told)
        else:
            self.assertIs(type(told), str)
            self.assertEqual(told, word)

    def assert_rows(self, check, rows):
        for row in rows:
            with self.subTest(row):
                self.assert_word(check(*row[:-1]), row[-1])


def cover_word(many, sets, chosen, prices):
    """Point 33, with Python's sets and fractions."""
    if not set(chosen) <= set(range(len(sets))) or len(set(chosen)) < len(chosen):
        return "chosen"
    if not set(range(many)) <= {thing for number in chosen for thing in sets[number][1]}:
        return "open"
    amounts = [as_fraction(price) for price in prices]
    if len(amounts) != many or min(amounts, default=0) < 0:
        return "prices"
    if any(sum(amounts[thing] for thing in things) > price for price, things in sets):
        return "over"
    most = max([len(things) for _, things in sets], default=0)
    whole = sum([Fraction(1, step) for step in range(1, most + 1)], Fraction(0))
    if sum(sets[number][0] for number in chosen) > whole * sum(amounts):
        return "share"
    return None


class CheckCoverTest(CheckTest):

    sets = [(3, [0, 1]), (2, [1, 2]), (4, [2])]

    def test_each_word(self):
        fair = [(2, 1), (1, 1), (1, 1)]
        self.assert_rows(lambda chosen, prices: check_cover(3, self.sets, chosen, prices), (
            ([0, 1], fair, None),
            ([1, 0], fair, None),
            ([0, 1, 3], fair, "chosen"),
            ([0, 1, -1], fair, "chosen"),
            ([0, 1, GREAT], fair, "chosen"),
            ([0, 1, -GREAT], fair, "chosen"),
            ([0, 1, 0], fair, "chosen"),
            ([0], fair, "open"),
            ([2, 1], fair, "open"),
            ([], fair, "open"),
            ([0, 1], fair[:2], "prices"),
            ([0, 1], fair + [(0, 1)], "prices"),
            ([0, 1], [], "prices"),
            ([0, 1], [(2, 1), (1, 1), (-1, 1)], "prices"),
            ([0, 1], [(2, 1), (-1, 10 ** 60 - 1), (1, 1)], "prices"),
            ([0, 1], [(2, 1), (10 ** 60 + 1, 10 ** 60), (1, 1)], "over"),
            ([0, 1], [(3, 1), (1, 10 ** 60 - 1), (1, 1)], "over"),
            ([0, 1], [(0, 1), (0, 1), (5, 1)], "over"),
            ([0, 1], [(3, 1), (0, 1), (2, 1)], None),
            ([0, 1], [(10, 3), (0, 1), (0, 1)], "over"),
            ([0, 1], [(1, 1), (1, 1), (1, 1)], "share"),
            ([0, 1], [(4, 3), (1, 1), (1, 1)], None),
            ([0, 1], [(4 * 10 ** 50 - 1, 3 * 10 ** 50), (1, 1), (1, 1)], "share"),
            ([0, 1, 2], fair, "share"),
        ))

    def test_two_due(self):
        self.assert_rows(lambda chosen, prices: check_cover(3, self.sets, chosen, prices), (
            ([0, 0], [], "chosen"),
            ([5], [(9, 1)] * 3, "chosen"),
            ([2, 2, 1, 0], [(-1, 1)], "chosen"),
            ([0], [(-1, 1)], "open"),
            ([0], [(9, 1)] * 3, "open"),
            ([2], [(0, 1)] * 3, "open"),
            ([0, 1], [(9, 1)] * 2, "prices"),
            ([0, 1], [(9, 1), (9, 1), (-1, 1)], "prices"),
            ([0, 1, 2], [(4, 1), (0, 1), (0, 1)], "over"),
        ))

    def test_without_things_or_sets(self):
        self.assert_rows(check_cover, (
            (0, [], [], [], None),
            (0, [], [0], [], "chosen"),
            (0, [], [], [(0, 1)], "prices"),
            (1, [], [], [(0, 1)], "open"),
            (0, [(0, [])], [0], [], None),
            (0, [(1, [])], [0], [], "share"),
            (0, [(1, [])], [], [], None),
            (1, [(0, [0])], [0], [(0, 1)], None),
        ))

    def test_many_long_prices(self):
        # Unlike bottoms of sixty figures, whose sums have long bottoms.
        random = Random(1)
        sets = [(10 ** 18, random.sample(range(80), 60)) for _ in range(39)] + [(10 ** 18, list(range(80)))]
        prices = [as_told(Fraction(random.randint(1, 10 ** 60 - 1), random.randint(10 ** 59, 10 ** 60 - 1)))
                  for _ in range(80)]
        self.assert_word(check_cover(80, sets, [39], prices), cover_word(80, sets, [39], prices))

    def test_seeded_against_the_rule(self):
        random = Random(2)
        words = {}
        for many, sets in questions(3, 2000, 4, 4, 4):
            chosen = [number for number in range(len(sets)) if random.random() < 0.8]
            prices = [as_told(Fraction(random.randint(0, 3), random.randint(1, 3))) for _ in range(many)]
            if random.random() < 0.2:
                chosen = spoiled_list(random, chosen)
            if random.random() < 0.2:
                prices = [as_told(Fraction(top, 2)) for top in spoiled_list(random, [0] * many)]
            word = cover_word(many, sets, chosen, prices)
            words[word] = words.get(word, 0) + 1
            self.assert_word(check_cover(many, sets, chosen, prices), word)
        self.assertEqual(set(words), {"chosen", "open", "prices", "over", "share", None})


def touch_word(prices, lines, chosen, paid):
    if not set(chosen) <= set(range(len(prices))) or len(set(chosen)) < len(chosen):
        return "chosen"
    if any(not set(line) & set(chosen) for line in lines):
        return "open"
    if len(paid) != len(lines) or min(paid, default=0) < 0:
        return "paid"
    spent = [0] * len(prices)
    for (a, b), pay in zip(lines, paid):
        spent[a] += pay
        spent[b] += pay
    if any(one > price for one, price in zip(spent, prices)):
        return "over"
    return "share" if sum(prices[point] for point in chosen) > 2 * sum(paid) else None


class CheckTouchTest(CheckTest):

    prices = [3, 5, 4]
    lines = [(0, 1), (2, 1)]

    def test_each_word(self):
        self.assert_rows(lambda chosen, paid: check_touch(self.prices, self.lines, chosen, paid), (
            ([0, 1], [3, 2], None),
            ([1], [3, 2], None),
            ([1], [0, 3], None),
            ([2, 0], [1, 3], None),
            ([1, 3], [3, 2], "chosen"),
            ([1, -1], [3, 2], "chosen"),
            ([1, GREAT], [3, 2], "chosen"),
            ([1, 1], [3, 2], "chosen"),
            ([0], [3, 2], "open"),
            ([], [3, 2], "open"),
            ([1], [3], "paid"),
            ([1], [3, 1, 1], "paid"),
            ([1], [], "paid"),
            ([1], [4, -1], "paid"),
            ([1], [3, -GREAT], "paid"),
            ([1], [4, 0], "over"),
            ([1], [2, 4], "over"),
            ([1], [0, GREAT], "over"),
            ([1], [1, 1], "share"),
            ([0, 1, 2], [3, 2], "share"),
            ([1], [0, 2], "share"),
        ))

    def test_two_due(self):
        self.assert_rows(lambda chosen, paid: check_touch(self.prices, self.lines, chosen, paid), (
            ([0, 0], [], "chosen"),
            ([7], [9, 9], "chosen"),
            ([0], [-1], "open"),
            ([2], [9, 9], "open"),
            ([1], [9, -1], "paid"),
            ([1], [9], "paid"),
            ([0, 1, 2], [4, 0], "over"),
        ))

    def test_without_lines_or_points(self):
        self.assert_rows(check_touch, (
            ([], [], [], [], None),
            ([], [], [0], [], "chosen"),
            ([], [], [], [0], "paid"),
            ([0], [], [0], [], None),
            ([1], [], [0], [], "share"),
            ([2, 2], [(0, 1), (1, 0)], [0], [1, 1], None),
            ([2, 2], [(0, 1), (1, 0)], [0], [2, 1], "over"),
        ))

    def test_seeded_against_the_rule(self):
        random = Random(4)
        words = {}
        for prices, lines in touch_questions(5, 2000, 4, 4, 4):
            chosen = [point for point in range(len(prices)) if random.random() < 0.7]
            paid = [random.randint(0, 2) for _ in lines]
            if random.random() < 0.2:
                chosen = spoiled_list(random, chosen)
            if random.random() < 0.2:
                paid = spoiled_list(random, paid)
            word = touch_word(prices, lines, chosen, paid)
            words[word] = words.get(word, 0) + 1
            self.assert_word(check_touch(prices, lines, chosen, paid), word)
        self.assertEqual(set(words), {"chosen", "open", "paid", "over", "share", None})


def length_of(lengths, roads):
    return sum(lengths[a][b] for a, b in roads)


def round_word(lengths, way, roads, pairs):
    count = len(lengths)
    if sorted(way) != list(range(count)):
        return "round"
    ends = [place for road in roads for place in road]
    if len(roads) != count - 1 or not set(ends) <= set(range(count)) or not hang_together(count, roads):
        return "tree"
    every = itertools.combinations(itertools.combinations(range(count), 2), count - 1)
    if length_of(lengths, roads) > min(length_of(lengths, tree) for tree in every if hang_together(count, tree)):
        return "shorter"
    odd = [place for place in range(count) if ends.count(place) % 2 == 1]
    if sorted(place for pair in pairs for place in pair) != odd:
        return "pairs"
    if length_of(lengths, pairs) > min(length_of(lengths, other) for other in all_pairings(odd)):
        return "fewer"
    walked = length_of(lengths, zip(way, way[1:] + way[:1]))
    return "share" if walked > length_of(lengths, roads) + length_of(lengths, pairs) else None


class CheckRoundTest(CheckTest):

    # Places at 0, 1, 2, 3 and 10 along a line.
    lengths = [[abs(a - b) for b in (0, 1, 2, 3, 10)] for a in (0, 1, 2, 3, 10)]
    roads = [(0, 1), (1, 2), (2, 3), (3, 4)]
    pairs = [(0, 4)]
    way = [0, 1, 2, 3, 4]

    def test_each_word(self):
        self.assert_rows(lambda way, roads, pairs: check_round(self.lengths, way, roads, pairs), (
            (self.way, self.roads, self.pairs, None),
            ([3, 4, 2, 0, 1], self.roads, self.pairs, None),
            (self.way, [(2, 1), (4, 3), (1, 0), (3, 2)], [(4, 0)], None),
            (self.way[1:], self.roads, self.pairs, "round"),
            (self.way + [0], self.roads, self.pairs, "round"),
            ([0, 1, 2, 3, 3], self.roads, self.pairs, "round"),
            ([0, 1, 2, 3, 5], self.roads, self.pairs, "round"),
            ([0, 1, 2, 3, -1], self.roads, self.pairs, "round"),
            ([0, 1, 2, 3, GREAT], self.roads, self.pairs, "round"),
            ([], self.roads, self.pairs, "round"),
            (self.way, self.roads[1:], self.pairs, "tree"),
            (self.way, self.roads + [(0, 1)], self.pairs, "tree"),
            (self.way, [], self.pairs, "tree"),
            (self.way, [(0, 1), (1, 2), (2, 0), (3, 4)], self.pairs, "tree"),
            (self.way, [(0, 1), (1, 2), (2, 3), (3, 3)], self.pairs, "tree"),
            (self.way, [(0, 1), (1, 2), (2, 3), (3, 5)], self.pairs, "tree"),
            (self.way, [(0, 1), (1, 2), (2, 3), (3, -1)], self.pairs, "tree"),
            (self.way, [(0, 1), (1, 2), (2, 3), (-GREAT, 4)], self.pairs, "tree"),
            (self.way, [(0, 1), (1, 2), (2, 3), (2, 4)], [(0, 2), (3, 4)], "shorter"),
            (self.way, [(0, 2), (1, 2), (2, 3), (3, 4)], [(0, 1), (2, 4)], "shorter"),
            (self.way, self.roads, [], "pairs"),
            (self.way, self.roads, [(0, 3)], "pairs"),
            (self.way, self.roads, [(0, 4), (1, 2)], "pairs"),
            (self.way, self.roads, [(0, 4), (0, 4)], "pairs"),
            (self.way, self.roads, [(0, 4), (1, 1)], "pairs"),
            (self.way, self.roads, [(0, 5)], "pairs"),
            (self.way, self.roads, [(GREAT, -1)], "pairs"),
            ([0, 4, 1, 3, 2], self.roads, self.pairs, "share"),
            ([0, 2, 1, 4, 3], self.roads, self.pairs, "share"),
        ))

    def test_a_pairing_that_is_not_the_least(self):
        # All roads go from place 0, which is halfway between each two others but 1 and 2, which are near.
        star = [[0, 4, 4, 4, 4], [4, 0, 5, 8, 8], [4, 5, 0, 8, 8], [4, 8, 8, 0, 8], [4, 8, 8, 8, 0]]
        roads = [(0, 1), (0, 2), (0, 3), (0, 4)]
        self.assert_word(check_round(star, [0, 1, 2, 3, 4], roads, [(1, 2), (3, 4)]), None)
        self.assert_word(check_round(star, [0, 1, 2, 3, 4], roads, [(4, 3), (2, 1)]), None)
        self.assert_word(check_round(star, [0, 1, 2, 3, 4], roads, [(1, 3), (2, 4)]), "fewer")
        self.assert_word(check_round(star, [0, 1, 3, 2, 4], roads, [(1, 3), (2, 4)]), "fewer")
        self.assert_word(check_round(star, [0, 1, 3, 2, 4], roads, [(1, 2), (3, 4)]), "share")

    def test_two_due(self):
        self.assert_rows(lambda way, roads, pairs: check_round(self.lengths, way, roads, pairs), (
            ([0], [], [], "round"),
            ([0, 1, 2, 3, 3], [(9, 9)], [(0, 3)], "round"),
            (self.way, [(0, 1)], [(0, 1), (0, 1)], "tree"),
            (self.way, [(0, 4), (0, 4), (0, 4), (0, 4)], [], "tree"),
            (self.way, [(0, 1), (1, 2), (2, 3), (2, 4)], [], "shorter"),
            ([0, 4, 1, 3, 2], [(0, 1), (1, 2), (2, 3), (2, 4)], [(0, 3), (2, 4)], "shorter"),
            ([0, 4, 1, 3, 2], self.roads, [], "pairs"),
        ))

    def test_one_place_and_two(self):
        self.assert_rows(check_round, (
            ([[0]], [0], [], [], None),
            ([[0]], [], [], [], "round"),
            ([[0]], [0, 0], [], [], "round"),
            ([[0]], [0], [(0, 0)], [], "tree"),
            ([[0]], [0], [], [(0, 0)], "pairs"),
            ([[0, 3], [3, 0]], [1, 0], [(1, 0)], [(0, 1)], None),
            ([[0, 3], [3, 0]], [1, 0], [(1, 0)], [], "pairs"),
            ([[0, 0], [0, 0]], [0, 1], [(0, 1)], [(1, 0)], None),
        ))

    def test_refused(self):
        assert_lengths_refused(self, lambda lengths: check_round(lengths, [0, 1, 2], [(0, 1), (1, 2)], [(0, 2)]))
        assert_lengths_refused(self, lambda lengths: check_round(lengths, [], [], []))

    def test_seeded_against_the_rule(self):
        random = Random(6)
        words = {}
        for lengths in length_tables(7, 1500, 5, 5):
            count = len(lengths)
            way = random.sample(range(count), count)
            roads = [(random.randrange(place), place) for place in range(1, count)]
            if random.random() < 0.7:
                roads = least_roads(lengths)
            odd = [place for place in range(count) if sum(place in road for road in roads) % 2 == 1]
            random.shuffle(odd)
            pairs = [(odd[k], odd[k + 1]) for k in range(0, len(odd), 2)]
            if random.random() < 0.1:
                way = spoiled_list(random, way)
            if random.random() < 0.1:
                roads = spoiled_pairs(random, roads)
            if random.random() < 0.2:
                pairs = spoiled_pairs(random, pairs)
            word = round_word(lengths, way, roads, pairs)
            words[word] = words.get(word, 0) + 1
            self.assert_word(check_round(lengths, way, roads, pairs), word)
        self.assertEqual(set(words), {"round", "tree", "shorter", "pairs", "fewer", "share", None})


def least_roads(lengths):
    """A shortest tree by taking the shortest roads that join what isn't joined yet: not the finder's way."""
    roads = []
    parts = [{place} for place in range(len(lengths))]
    for a, b in sorted(itertools.combinations(range(len(lengths)), 2), key=lambda road: lengths[road[0]][road[1]]):
        one, other = ([part for part in parts if place in part][0] for place in (a, b))
        if one is not other:
            parts.remove(other)
            one |= other
            roads.append((b, a))
    return roads


def bench_word(works, many, put, bound):
    if len(put) != len(works) or not set(put) <= set(range(many)):
        return "put"
    falling = sorted(works)[::-1]
    bounds = [0, -(-sum(works) // many)] + falling[:1]
    if len(works) > many:
        bounds.append(falling[many - 1] + falling[many])
    if bound > max(bounds):
        return "bound"
    heavy = max(sums_of(works, put).values(), default=0)
    return "share" if heavy > (Fraction(3, 2) - Fraction(1, 2 * many)) * bound else None


class CheckBenchesTest(CheckTest):

    def test_each_word(self):
        # Bound by sums: 6, as 15 by 3 is 5 and two of the 3s have to share a bench.
        self.assert_rows(lambda put, bound: check_benches([3, 3, 3, 3, 3], 3, put, bound), (
            ([0, 1, 2, 0, 1], 6, None),
            ([0, 1, 2, 0, 1], 5, None),
            ([0, 1, 2, 0, 1], 4, "share"),
            ([0, 1, 2, 0, 1], 0, "share"),
            ([0, 1, 2, 0, 1], -GREAT, "share"),
            ([0, 1, 2, 0, 1], 7, "bound"),
            ([0, 1, 2, 0, 1], GREAT, "bound"),
            ([0, 0, 0, 1, 1], 6, "share"),
            ([0, 1, 2, 0], 6, "put"),
            ([0, 1, 2, 0, 1, 2], 6, "put"),
            ([], 6, "put"),
            ([0, 1, 2, 0, 3], 6, "put"),
            ([0, 1, 2, 0, -1], 6, "put"),
            ([0, 1, 2, 0, GREAT], 6, "put"),
            ([0, 1, 2, 0, -GREAT], 6, "put"),
        ))

    def test_just_the_share(self):
        # Two benches: 3/2 - 1/4, so 5 stands for a bound of 4, and 6 doesn't.
        self.assert_word(check_benches([4, 1, 2, 1], 2, [0, 0, 1, 1], 4), None)
        self.assert_word(check_benches([4, 1, 1, 2], 2, [0, 0, 0, 1], 4), "share")
        self.assert_word(check_benches([5, 7], 1, [0, 0], 12), None)
        self.assert_word(check_benches([5, 7], 1, [0, 0], 11), "share")

    def test_two_due(self):
        self.assert_rows(lambda put, bound: check_benches([3, 3, 3, 3, 3], 3, put, bound), (
            ([0, 1], 99, "put"),
            ([0, 0, 0, 0, 3], 0, "put"),
            ([0, 0, 0, 0, 0], 7, "bound"),
        ))

    def test_without_works(self):
        self.assert_rows(check_benches, (
            ([], 3, [], 0, None),
            ([], 3, [], -1, "share"),
            ([], 3, [], 1, "bound"),
            ([], 3, [0], 0, "put"),
        ))

    def test_seeded_against_the_rule(self):
        random = Random(8)
        words = {}
        for works in size_lists(9, 1500, 5, 6):
            many = random.randint(1, 4)
            put = [random.randrange(many) for _ in works]
            if random.random() < 0.2:
                put = spoiled_list(random, put)
            bound = random.randint(-1, 12)
            word = bench_word(works, many, put, bound)
            words[word] = words.get(word, 0) + 1
            self.assert_word(check_benches(works, many, put, bound), word)
        self.assertEqual(set(words), {"put", "bound", "share", None})


def bin_word(sizes, room, put, bound):
    if len(put) != len(sizes) or not set(put) <= set(range(len(sizes))) or set(put) != set(range(len(set(put)))):
        return "put"
    if max(sums_of(sizes, put).values(), default=0) > room:
        return "full"
    if bound > max(-(-sum(sizes) // room), sum(2 * size > room for size in sizes)):
        return "bound"
    return "share" if 2 * len(set(put)) > 3 * bound else None


class CheckBinsTest(CheckTest):

    def test_each_word(self):
        # Bound of bins: 14 by 6 is 3.
        self.assert_rows(lambda put, bound: check_bins([3, 3, 4, 2, 2], 6, put, bound), (
            ([0, 0, 1, 1, 2], 3, None),
            ([2, 2, 0, 0, 1], 3, None),
            ([0, 0, 1, 1, 2], 2, None),
            ([0, 1, 2, 2, 3], 3, None),
            ([0, 0, 1, 1, 2], 1, "share"),
            ([0, 0, 1, 1, 2], -GREAT, "share"),
            ([0, 1, 2, 3, 4], 3, "share"),
            ([0, 1, 2, 2, 3], 2, "share"),
            ([0, 0, 1, 1, 2], 4, "bound"),
            ([0, 0, 1, 1, 2], GREAT, "bound"),
            ([0, 0, 0, 1, 1], 3, "full"),
            ([0, 0, 1, 1, 1], 3, "full"),
            ([0, 0, 1, 1], 3, "put"),
            ([0, 0, 1, 1, 2, 2], 3, "put"),
            ([], 3, "put"),
            ([0, 0, 1, 1, 3], 3, "put"),
            ([1, 1, 2, 2, 3], 3, "put"),
            ([0, 0, 1, 1, -1], 3, "put"),
            ([0, 0, 1, 1, 5], 3, "put"),
            ([0, 0, 1, 1, GREAT], 3, "put"),
        ))

    def test_two_due(self):
        self.assert_rows(lambda put, bound: check_bins([3, 3, 4, 2, 2], 6, put, bound), (
            ([0, 0, 0, 0], 9, "put"),
            ([1, 1, 1, 1, 1], 3, "put"),
            ([0, 0, 0, 0, 0], 9, "full"),
            ([0, 0, 0, 1, 1], -1, "full"),
            ([0, 1, 2, 3, 4], 4, "bound"),
        ))

    def test_without_things(self):
        self.assert_rows(check_bins, (
            ([], 3, [], 0, None),
            ([], 3, [], -1, "share"),
            ([], 3, [], 1, "bound"),
            ([], 3, [0], 0, "put"),
        ))

    def test_refused(self):
        assert_no_room(self, lambda sizes, room: check_bins(sizes, room, [], 99))
        assert_no_room(self, lambda sizes, room: check_bins(sizes, room, list(range(len(sizes))), 2))

    def test_seeded_against_the_rule(self):
        random = Random(10)
        words = {}
        for sizes in size_lists(11, 2000, 5, 6):
            room = random.randint(6, 12)
            put = []
            for _ in sizes:
                put.append(random.randint(0, max(put, default=-1) + 1))
            if random.random() < 0.2:
                put = spoiled_list(random, put)
            bound = random.randint(-1, 4)
            word = bin_word(sizes, room, put, bound)
            words[word] = words.get(word, 0) + 1
            self.assert_word(check_bins(sizes, room, put, bound), word)
        self.assertEqual(set(words), {"put", "full", "bound", "share", None})


def sack_word(room, things, taken, price):
    if not set(taken) <= set(range(len(things))) or len(set(taken)) < len(taken):
        return "taken"
    if sum(things[number][1] for number in taken) > room:
        return "full"
    amount = as_fraction(price)
    if amount < 0:
        return "price"
    bound = amount * room + sum(max(0, worth - amount * weight) for worth, weight in things if weight <= room)
    return "share" if 2 * sum(things[number][0] for number in taken) < bound else None


class CheckSackTest(CheckTest):

    things = [(6, 3), (9, 4), (1, 1), (90, 7)]

    def test_each_word(self):
        # At a price of 2 the bound is 12, and 1 for the worth of thing 1 above it.
        self.assert_rows(lambda taken, price: check_sack(6, self.things, taken, price), (
            ([1, 2], (2, 1), None),
            ([2, 1], (2, 1), None),
            ([0, 2], (2, 1), None),
            ([0], (2, 1), "share"),
            ([], (2, 1), "share"),
            ([1, 2], (0, 1), None),
            ([0], (0, 1), "share"),
            ([1, 2], (10 ** 60 - 1, 3), "share"),
            ([1, 2], (1, 10 ** 60 - 1), None),
            ([1, 2], (-1, 1), "price"),
            ([1, 2], (-1, 10 ** 60 - 1), "price"),
            ([1, 0], (2, 1), "full"),
            ([3], (2, 1), "full"),
            ([1, 4], (2, 1), "taken"),
            ([1, -1], (2, 1), "taken"),
            ([1, GREAT], (2, 1), "taken"),
            ([2, 2], (2, 1), "taken"),
        ))

    def test_just_the_share(self):
        self.assert_word(check_sack(4, [(3, 2), (3, 2), (3, 2)], [0], (3, 2)), None)
        self.assert_word(check_sack(4, [(3, 2), (3, 2), (3, 2)], [0], (3 * 10 ** 50 + 1, 2 * 10 ** 50)), "share")

    def test_two_due(self):
        self.assert_rows(lambda taken, price: check_sack(6, self.things, taken, price), (
            ([3, 3], (-1, 1), "taken"),
            ([9], (9, 1), "taken"),
            ([3], (-1, 1), "full"),
            ([0, 1], (90, 1), "full"),
            ([], (-1, 2), "price"),
        ))

    def test_without_things_or_room(self):
        self.assert_rows(check_sack, (
            (0, [], [], (0, 1), None),
            (0, [], [], (7, 2), None),
            (3, [], [], (7, 2), "share"),
            (3, [], [], (0, 1), None),
            (0, [(9, 1)], [], (0, 1), None),
            (0, [(9, 1)], [0], (0, 1), "full"),
            (0, [], [0], (0, 1), "taken"),
        ))

    def test_seeded_against_the_rule(self):
        random = Random(12)
        words = {}
        for room, things in sack_questions(13, 2000, 5, 6, 6):
            taken = [number for number in range(len(things)) if random.random() < 0.5]
            random.shuffle(taken)
            if random.random() < 0.2:
                taken = spoiled_list(random, taken)
            price = as_told(Fraction(random.randint(-1, 6), random.randint(1, 6)))
            word = sack_word(room, things, taken, price)
            words[word] = words.get(word, 0) + 1
            self.assert_word(check_sack(room, things, taken, price), word)
        self.assertEqual(set(words), {"taken", "full", "price", "share", None})


def place_word(lengths, many, chosen, far):
    places = set(range(len(lengths)))
    if not set(chosen) <= places or len(set(chosen)) < len(chosen) or len(chosen) != many:
        return "chosen"
    if len(lengths) == many:
        return None
    if not set(far) <= places or len(set(far)) < len(far) or len(far) != many + 1:
        return "far"
    reach = max(min(lengths[place][one] for one in chosen) for place in places)
    return "share" if reach > min(lengths[a][b] for a, b in itertools.combinations(far, 2)) else None


class CheckPlacesTest(CheckTest):

    lengths = [[abs(a - b) for b in (5, 0, 9, 3)] for a in (5, 0, 9, 3)]

    def test_each_word(self):
        self.assert_rows(lambda chosen, far: check_places(self.lengths, 2, chosen, far), (
            ([0, 1], [0, 1, 2], None),
            ([1, 0], [2, 1, 0], None),
            ([0], [0, 1, 2], "chosen"),
            ([0, 1, 2], [0, 1, 2], "chosen"),
            ([], [0, 1, 2], "chosen"),
            ([0, 0], [0, 1, 2], "chosen"),
            ([0, 4], [0, 1, 2], "chosen"),
            ([0, -1], [0, 1, 2], "chosen"),
            ([0, GREAT], [0, 1, 2], "chosen"),
            ([0, 1], [0, 1], "far"),
            ([0, 1], [0, 1, 2, 3], "far"),
            ([0, 1], [], "far"),
            ([0, 1], [0, 1, 1], "far"),
            ([0, 1], [0, 1, 4], "far"),
            ([0, 1], [0, 1, -2], "far"),
            ([0, 1], [0, 1, -GREAT], "far"),
            ([0, 1], [0, 1, 3], "share"),
            ([0, 2], [0, 1, 2], "share"),
            ([3, 2], [0, 1, 2], None),
        ))

    def test_as_many_as_there_are(self):
        # The far ones aren't looked at then.
        for far in ([], [0], [7, 7, -1, GREAT], [0, 1, 2, 3]):
            self.assert_word(check_places(self.lengths, 4, [3, 1, 0, 2], far), None)
            self.assert_word(check_places(self.lengths, 4, [3, 1, 0, 0], far), "chosen")
        self.assert_word(check_places([[0]], 1, [0], []), None)
        self.assert_word(check_places([[0]], 1, [1], []), "chosen")

    def test_two_due(self):
        self.assert_rows(lambda chosen, far: check_places(self.lengths, 2, chosen, far), (
            ([0], [0], "chosen"),
            ([2, 2], [0, 1, 3], "chosen"),
            ([0, 2], [0, 1], "far"),
        ))

    def test_refused(self):
        assert_lengths_refused(self, lambda lengths: check_places(lengths, 1, [0], [0, 1]))
        assert_lengths_refused(self, lambda lengths: check_places(lengths, len(lengths), [], []))

    def test_seeded_against_the_rule(self):
        random = Random(14)
        words = {}
        for lengths in length_tables(15, 1500, 6, 6):
            many = random.randint(1, len(lengths))
            chosen = random.sample(range(len(lengths)), many)
            far = random.sample(range(len(lengths)), min(many + 1, len(lengths)))
            if random.random() < 0.2:
                chosen = spoiled_list(random, chosen)
            if random.random() < 0.2:
                far = spoiled_list(random, far)
            word = place_word(lengths, many, chosen, far)
            words[word] = words.get(word, 0) + 1
            self.assert_word(check_places(lengths, many, chosen, far), word)
        self.assertEqual(set(words), {"chosen", "far", "share", None})


class CheckBestTest(CheckTest):

    question = SackQuestion(5, [(4, 3), (9, 6), (2, 2)])
    closed = [(0, 1, 0), (0, 1, 1), (1, 1)]

    def test_each_word(self):
        self.assert_rows(lambda case, cost, closed: check_best(self.question, case, cost, closed), (
            ((0, 1, 0), 9, self.closed, None),
            ((0, 1, 0), 9, self.closed[1:], "parts"),
            ((0, 1, 0), 9, self.closed[:-1], "parts"),
            ((0, 1, 0), 9, self.closed + [(1, 1)], "parts"),
            ((0, 1, 0), 9, self.closed[::-1], "parts"),
            ((0, 1, 0), 9, [], "parts"),
            ((0, 1, 0), 9, [(0, 1, 0), (0, 1, 1), (1, GREAT)], "parts"),
            ((0, 1, 0), 9, [(0, 1, 0), (0, 1, 1), (-1,)], "parts"),
            ((0, 1, 0), 9, [(0, 1, 0), (0, 1, 1), (1,)], "low"),
            ((), 0, [()], "case"),
            ((0, 1, 0), 10, self.closed, "low"),
            ((0, 1, 0), GREAT, self.closed, "low"),
            ((0, 1, 0), 8, self.closed, "case"),
            ((0, 1, 0), -GREAT, self.closed, "case"),
            ((0, 1, 1), 9, self.closed, "case"),
            ((1, 1), 9, self.closed, "case"),
            ((1, 1, 1), 9, self.closed, "case"),
            ((), 9, self.closed, "case"),
            ((5, 5, 5, 5), 9, self.closed, "case"),
            ((-1, GREAT), 9, self.closed, "case"),
        ))

    def test_two_due(self):
        self.assert_rows(lambda case, cost, closed: check_best(self.question, case, cost, closed), (
            ((7,), 99, [], "parts"),
            ((0, 1, 0), 99, self.closed[1:], "parts"),
            ((7,), 10, self.closed, "low"),
            ((), 1, [()], "low"),
        ))

    def test_the_plain_question(self):
        self.assert_rows(lambda case, cost, closed: check_best(Question(), case, cost, closed), (
            ((), 0, [()], None),
            ((), 0, [], "parts"),
            ((), 0, [(), ()], "parts"),
            ((), 1, [()], "low"),
            ((), -1, [()], "case"),
            ((0,), 0, [()], "case"),
        ))

    def test_what_the_best_leaves(self):
        for question in small_questions(16, 15):
            case, cost, closed = best_by_cases(question, 5000)
            self.assert_word(check_best(question, case, cost, closed), None)
            self.assert_word(check_best(question, case, cost + 1, closed), "low")
            self.assert_word(check_best(question, case, cost - 1, closed), "case")
            self.assert_word(check_best(question, case + (0,), cost, closed), "case")
            self.assert_word(check_best(question, case, cost, closed[1:]), "parts")

    def test_another_whole_case_of_the_same_cost(self):
        question = PlaceQuestion([[0, 2], [2, 0]], 1)
        self.assert_word(check_best(question, (1,), 2, [(0,), (1,)]), None)
        question = CoverQuestion(1, [(1, [0]), (2, [0])])
        self.assert_word(check_best(question, (0, 1), 1, [(0, 1), (1,)]), "case")
        self.assert_word(check_best(question, (1, 0), 1, [(0, 1), (1, 0), (1, 1)]), None)


def papers():
    """A call of each checker, with an answer and paper that hold."""
    lengths = CheckRoundTest.lengths
    question = CheckBestTest.question
    return ((check_cover, (3, CheckCoverTest.sets, [0, 1], [(2, 1), (1, 1), (1, 1)])),
            (check_touch, ([3, 5, 4], [(0, 1), (2, 1)], [0, 1], [3, 2])),
            (check_round, (lengths, [0, 1, 2, 3, 4], [(0, 1), (1, 2), (2, 3), (3, 4)], [(0, 4)])),
            (check_benches, ([3, 3, 3, 3, 3], 3, [0, 1, 2, 0, 1], 6)),
            (check_bins, ([3, 3, 4, 2, 2], 6, [0, 0, 1, 1, 2], 3)),
            (check_sack, (6, [(6, 3), (9, 4), (1, 1), (90, 7)], [1, 2], (2, 1))),
            (check_places, (CheckPlacesTest.lengths, 2, [0, 1], [0, 1, 2])),
            (check_best, (question, (0, 1, 0), 9, [(0, 1, 0), (0, 1, 1), (1, 1)])))


class KnowsNothingTest(unittest.TestCase):

    finders = ("cover", "paid_by_things", "cover_prices", "takings", "touching", "line_prices", "least_tree",
               "walked_round", "least_pairing", "KnownPairs", "closed_walk", "paired_round", "put_in_order",
               "put_longest_first", "put_by", "first_fit", "greatest_first", "by_weight", "weighing", "taking",
               "by_rounded", "farthest_next", "far_apart", "choose", "best_by_cases")

    def test_the_checker_does_without_the_finders(self):
        folder = pathlib.Path(__file__).resolve().parent.parent / "goodenough"
        modules = [importlib.import_module(f"goodenough.{path.stem}") for path in sorted(folder.glob("*.py"))
                   if path.stem != "__init__"]
        stack = [mock.patch.object(module, name, side_effect=AssertionError(name))
                 for module in modules for name in self.finders if hasattr(module, name)]
        self.assertEqual({patch.attribute for patch in stack}, set(self.finders))
        for patch in stack:
            patch.start()
            self.addCleanup(patch.stop)
        for check, given in papers():
            self.assertIsNone(check(*given))

    def test_it_refuses_nothing_else(self):
        # Odd answers and papers of all kinds get a word, never an error.
        random = Random(17)
        for check, given in papers():
            for _ in range(300):
                odd = list(given)
                for spot in range(len(given) - 2, len(given)):
                    odd[spot] = self.spoil(random, given[spot])
                try:
                    told = check(*odd)
                except EnoughError as error:
                    self.fail(f"{check.__name__} refused {odd}: {error!r}")
                self.assertIn(type(told), (str, type(None)))

    def spoil(self, random, value):
        if isinstance(value, int):
            return random.choice((value, 0, -1, GREAT, -GREAT))
        if value and isinstance(value[0], tuple):
            if len(value[0]) == 2 and value[0][1] == 1:
                return [as_told(Fraction(top)) for top in spoiled_list(random, [price[0] for price in value])]
            if len(value[0]) == 2:
                return spoiled_pairs(random, value)
            return [tuple(spoiled_list(random, case)) for case in value]
        if isinstance(value, tuple):
            return as_told(Fraction(random.randint(-3, 3), random.randint(1, 5)))
        return spoiled_list(random, value)


class UnchangedTest(unittest.TestCase):

    def test_given(self):
        for check, given in papers():
            if check is not check_best:
                assert_unchanged(self, check, given)
        question, case, cost, closed = papers()[-1][1]
        kept = list(closed)
        check_best(question, case, cost, closed)
        self.assertEqual(closed, kept)


if __name__ == "__main__":
    unittest.main()
