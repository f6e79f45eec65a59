"""Points 7, 8 and 9, the first item of point 4, and point 2 where it speaks of these."""

import copy
import itertools
import unittest
from fractions import Fraction
from random import Random

from goodenough.covers import cover, cover_prices, cover_share, paid_by_things, price_of
from goodenough.errors import NoCover
from goodenough.shares import steps_sum
from helper import (as_fraction, as_told, assert_fractions, assert_shortest, assert_whole_numbers, coverable,
                    questions)

ASKING = (cover, paid_by_things, cover_prices)
GREATEST = 10 ** 18


def seeded():
    """Small and middling questions, with few prices (so that many are alike) and with great ones."""
    return (questions(1, 150, 6, 6, 3) + questions(2, 60, 12, 10, 20) + questions(3, 40, 12, 10, GREATEST)
            + questions(4, 6, 80, 39, 9))


def told_by_the_rule(many, sets):
    """Point 8 step by step, with Python's fractions: the sets taken, and what each thing pays."""
    open_things = set(range(many))
    taken = []
    paid = {}
    while open_things:
        offers = []
        for number, (price, things) in enumerate(sets):
            fresh = open_things & set(things)
            if fresh:
                offers.append((Fraction(price, len(fresh)), number))
        rate, number = min(offers)
        taken.append(number)
        for thing in open_things & set(sets[number][1]):
            paid[thing] = rate
        open_things -= set(sets[number][1])
    return taken, [paid[thing] for thing in range(many)]


def all_covers(many, sets):
    for size in range(len(sets) + 1):
        for chosen in itertools.combinations(range(len(sets)), size):
            if {thing for number in chosen for thing in sets[number][1]} >= set(range(many)):
                yield chosen


class NoCoverTest(unittest.TestCase):

    def assert_refused(self, many, sets, thing):
        for ask in ASKING:
            with self.assertRaises(NoCover) as caught:
                ask(many, sets)
            self.assertEqual(caught.exception.thing, thing)
            self.assertIs(type(caught.exception.thing), int)

    def test_one_thing_in_no_set(self):
        self.assert_refused(3, [(1, [0, 1])], 2)
        self.assert_refused(3, [(1, [1, 2])], 0)
        self.assert_refused(3, [(1, [2]), (0, [0])], 1)

    def test_the_least_of_several(self):
        self.assert_refused(5, [(1, [4, 0]), (2, [2])], 1)
        self.assert_refused(80, [(1, list(range(78, -1, -2)))], 1)
        self.assert_refused(80, [(1, list(range(70)))], 70)

    def test_no_sets_at_all(self):
        self.assert_refused(1, [], 0)
        self.assert_refused(80, [], 0)

    def test_sets_without_things(self):
        self.assert_refused(2, [(0, []), (5, [])], 0)
        self.assert_refused(2, [(0, []), (5, [0])], 1)

    def test_seeded_leaving_out(self):
        random = Random(6)
        for many, sets in questions(5, 60, 9, 6, 5):
            if many > 0:
                out = random.sample(range(many), random.randint(1, many))
                kept = [(price, [thing for thing in things if thing not in out]) for price, things in sets]
                self.assert_refused(many, kept, min(out))


class EdgesTest(unittest.TestCase):

    def test_no_things_at_all(self):
        for sets in ([], [(3, [])], [(0, []), (GREATEST, [])]):
            for ask in ASKING:
                told = ask(0, sets)
                self.assertIs(type(told), list)
                self.assertEqual(told, [])

    def test_sets_without_things_are_passed_over(self):
        sets = [(0, []), (4, [1]), (0, []), (4, [0])]
        self.assertEqual(cover(2, sets), [1, 3])

    def test_things_in_any_order(self):
        for order in itertools.permutations([0, 1, 2]):
            sets = [(2, [0]), (3, list(order)), (1, [2])]
            self.assertEqual(cover(3, sets), [1])
            self.assertEqual(paid_by_things(3, sets), [(1, 1), (1, 1), (1, 1)])
            self.assertEqual(cover_prices(3, sets), [(6, 11), (6, 11), (6, 11)])

    def test_the_greatest_question(self):
        sets = [(GREATEST, [thing]) for thing in range(38)] + [(GREATEST, list(range(80))), (0, [79])]
        self.assertEqual(cover(80, sets), [39, 38])
        self.assertEqual(paid_by_things(80, sets), [as_told(Fraction(GREATEST, 79))] * 79 + [(0, 1)])


class TakingTest(unittest.TestCase):

    def test_written_out(self):
        # 3/2 is less than 6/3 and 2/1; thing 2 being covered then, set 0 is left with 6/2.
        sets = [(6, [0, 1, 2]), (2, [3]), (3, [2, 3])]
        self.assertEqual(cover(4, sets), [2, 0])
        self.assertEqual(paid_by_things(4, sets), [(3, 1), (3, 1), (3, 2), (3, 2)])

    def test_counts_only_what_is_not_covered_yet(self):
        sets = [(1, [0, 1, 2]), (4, [0, 1, 2, 3]), (3, [3])]
        self.assertEqual(cover(4, sets), [0, 2])
        self.assertEqual(paid_by_things(4, sets), [(1, 3), (1, 3), (1, 3), (3, 1)])

    def test_the_least_number_of_like_ones(self):
        self.assertEqual(cover(2, [(2, [0, 1]), (2, [1, 0]), (1, [0])]), [0])
        self.assertEqual(cover(2, [(1, [1]), (2, [0, 1]), (1, [0])]), [0, 2])
        self.assertEqual(cover(3, [(9, [2]), (2, [1, 0]), (1, [0]), (1, [1])]), [1, 0])

    def test_like_fractions_of_unlike_prices(self):
        sets = [(GREATEST // 2, [0]), (GREATEST, [1, 2]), (GREATEST // 2, [1])]
        self.assertEqual(cover(3, sets), [0, 1])

    def test_told_in_the_order_taken(self):
        sets = [(9, [0]), (5, [1]), (7, [2]), (1, [3])]
        self.assertEqual(cover(4, sets), [3, 1, 2, 0])

    def test_prices_of_nought(self):
        sets = [(0, [0]), (1, [0, 1, 2]), (0, [1])]
        self.assertEqual(cover(3, sets), [0, 2, 1])
        self.assertEqual(paid_by_things(3, sets), [(0, 1), (0, 1), (1, 1)])
        # A set for nothing is still passed over where it covers nothing new.
        self.assertEqual(cover(2, [(0, [0, 1]), (0, [1])]), [0])

    def test_great_prices_that_differ_by_one(self):
        sets = [(GREATEST, [0, 1]), (GREATEST - 1, [1, 0])]
        self.assertEqual(cover(2, sets), [1])
        self.assertEqual(paid_by_things(2, sets), [(GREATEST - 1, 2)] * 2)

    def test_pays_by_the_set_that_covered_first(self):
        sets = [(1, [0, 1]), (2, [1, 2])]
        self.assertEqual(cover(3, sets), [0, 1])
        self.assertEqual(paid_by_things(3, sets), [(1, 2), (1, 2), (2, 1)])

    def test_seeded_against_the_rule(self):
        for many, sets in seeded():
            taken, paid = told_by_the_rule(many, sets)
            told = cover(many, sets)
            assert_whole_numbers(self, told)
            self.assertEqual(told, taken)
            told = paid_by_things(many, sets)
            assert_fractions(self, told)
            self.assertEqual([as_fraction(one) for one in told], paid)


class PaperTest(unittest.TestCase):

    def test_written_out(self):
        sets = [(2, [0, 1, 2]), (1, [0]), (3, [2, 3])]
        self.assertEqual(cover(4, sets), [0, 2])
        self.assertEqual(cover_share(sets), (11, 6))
        self.assertEqual(cover_prices(4, sets), [(4, 11), (4, 11), (4, 11), (18, 11)])

    def test_share_without_sets_or_things(self):
        self.assertEqual(cover_share([]), (0, 1))
        self.assertEqual(cover_share([(7, [])]), (0, 1))
        assert_shortest(self, cover_share([]))

    def test_share_is_of_the_most_things_in_one_set(self):
        self.assertEqual(cover_share([(7, [3])]), (1, 1))
        self.assertEqual(cover_share([(7, [3]), (0, [2, 1]), (1, [])]), (3, 2))
        self.assertEqual(cover_share([(7, list(range(80))), (0, [2, 1])]), steps_sum(80))

    def test_share_counts_sets_that_are_not_taken(self):
        sets = [(0, [0]), (0, [1]), (9, [0, 1])]
        self.assertEqual(cover(2, sets), [0, 1])
        self.assertEqual(cover_share(sets), (3, 2))

    def test_prices_are_what_is_paid_by_the_share(self):
        for many, sets in seeded():
            whole = as_fraction(cover_share(sets))
            assert_shortest(self, cover_share(sets))
            told = cover_prices(many, sets)
            assert_fractions(self, told)
            self.assertEqual(len(told), many)
            paid = told_by_the_rule(many, sets)[1]
            self.assertEqual([as_fraction(one) * whole for one in told], paid)

    def test_prices_pass_no_set_and_come_to_the_cover(self):
        for many, sets in seeded():
            prices = [as_fraction(one) for one in cover_prices(many, sets)]
            for price, things in sets:
                self.assertLessEqual(sum(prices[thing] for thing in things), price)
            self.assertEqual(sum(prices) * as_fraction(cover_share(sets)), price_of(sets, cover(many, sets)))


class PriceOfTest(unittest.TestCase):

    def test_any_chosen_sets(self):
        sets = [(5, [0]), (0, []), (GREATEST, [1, 0]), (7, [])]
        for chosen, price in (([], 0), ([0], 5), ([1], 0), ([3, 0], 12), ([2, 1, 0], GREATEST + 5),
                              ([0, 1, 2, 3], GREATEST + 12)):
            told = price_of(sets, chosen)
            self.assertIs(type(told), int)
            self.assertEqual(told, price)

    def test_without_sets(self):
        self.assertEqual(price_of([], []), 0)


class PromiseTest(unittest.TestCase):

    def test_a_cover_near_the_best(self):
        for many, sets in questions(7, 120, 6, 7, 6) + questions(8, 40, 5, 6, GREATEST):
            told = cover(many, sets)
            covers = list(all_covers(many, sets))
            self.assertIn(tuple(sorted(told)), covers)
            price = price_of(sets, told)
            most = max([len(things) for _, things in sets], default=0)
            whole = sum([Fraction(1, step) for step in range(1, most + 1)], Fraction(0))
            bound = sum([as_fraction(one) for one in cover_prices(many, sets)], Fraction(0))
            self.assertEqual(bound * whole, price)
            for chosen in covers:
                other = sum(sets[number][0] for number in chosen)
                self.assertLessEqual(price, whole * other)
                self.assertLessEqual(bound, other)


class UnchangedTest(unittest.TestCase):

    def setUp(self):
        self.many = 8
        self.sets = coverable(Random(9), 8, 6, 20)

    def test_what_is_handed_in_stays(self):
        kept = copy.deepcopy(self.sets)
        for ask in ASKING:
            ask(self.many, self.sets)
            self.assertEqual(self.sets, kept)
        cover_share(self.sets)
        self.assertEqual(self.sets, kept)
        chosen = [2, 0, 1]
        price_of(self.sets, chosen)
        self.assertEqual((self.sets, chosen), (kept, [2, 0, 1]))

    def test_what_is_handed_in_stays_where_refused(self):
        sets = [(1, [2, 0]), (3, [])]
        for ask in ASKING:
            with self.assertRaises(NoCover):
                ask(4, sets)
            self.assertEqual(sets, [(1, [2, 0]), (3, [])])

    def test_a_told_list_belongs_to_who_asked(self):
        for ask in ASKING:
            told = ask(self.many, self.sets)
            kept = list(told)
            told.append(99)
            told[0] = 98
            again = ask(self.many, self.sets)
            self.assertEqual(again, kept)
            again.clear()
            self.assertEqual(ask(self.many, self.sets), kept)

    def test_an_empty_told_list_belongs_to_who_asked(self):
        for ask in ASKING:
            ask(0, []).append(99)
            self.assertEqual(ask(0, []), [])


if __name__ == "__main__":
    unittest.main()
