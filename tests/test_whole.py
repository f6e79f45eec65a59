"""Point 4 over the whole program: the finders' papers are let by, and what is let by holds against any answer."""

import itertools
import unittest
from fractions import Fraction
from random import Random

from goodenough.benches import bench_bound, heaviest, put_longest_first
from goodenough.bins import bin_bound, greatest_first
from goodenough.cases import best_by_cases
from goodenough.checks import (check_benches, check_best, check_bins, check_cover, check_places, check_round,
                               check_sack, check_touch)
from goodenough.covers import cover, cover_prices, cover_share, price_of
from goodenough.house import best_told, house_answer
from goodenough.lengths import roads_length, round_length
from goodenough.pairings import least_pairing, odd_ends
from goodenough.places import far_apart, farthest_next, radius
from goodenough.rounds import paired_round
from goodenough.sacks import bound_of, by_weight, weighing
from goodenough.touches import line_prices, touching
from goodenough.trees import least_tree
from helper import (all_fillings, all_pairings, all_puttings, all_rounds, as_fraction, as_told, hang_together,
                    length_tables, questions, sack_questions, size_lists, small_questions, spoiled_list, sums_of,
                    touch_questions, whole_cases)

GREATEST = 10 ** 18


class PapersLetByTest(unittest.TestCase):

    def test_covers(self):
        for many, sets in (questions(1, 150, 8, 8, 9) + questions(2, 30, 12, 10, GREATEST) + questions(3, 5, 80, 39, 9)
                           + questions(4, 30, 5, 5, 0)):
            self.assertIsNone(check_cover(many, sets, cover(many, sets), cover_prices(many, sets)))

    def test_touchings(self):
        for prices, lines in (touch_questions(5, 150, 8, 12, 9) + touch_questions(6, 30, 8, 12, GREATEST)
                              + touch_questions(7, 10, 40, 80, 5)):
            self.assertIsNone(check_touch(prices, lines, touching(prices, lines), line_prices(prices, lines)))

    def test_rounds(self):
        for lengths in length_tables(8, 100, 12, 9) + length_tables(9, 30, 12, GREATEST) + length_tables(10, 20, 12, 1):
            roads = least_tree(lengths)
            pairs = least_pairing(lengths, odd_ends(roads))
            self.assertIsNone(check_round(lengths, paired_round(lengths), roads, pairs))

    def test_benches(self):
        random = Random(11)
        for works in size_lists(12, 150, 12, 9) + size_lists(13, 30, 40, GREATEST) + size_lists(14, 30, 40, 40):
            many = random.randint(1, 20)
            self.assertIsNone(check_benches(works, many, put_longest_first(works, many), bench_bound(works, many)))

    def test_bins(self):
        random = Random(15)
        for sizes in size_lists(16, 150, 12, 9) + size_lists(17, 30, 40, GREATEST) + size_lists(18, 30, 40, 40):
            least = max(sizes, default=1)
            room = random.randint(least, 3 * least)
            self.assertIsNone(check_bins(sizes, room, greatest_first(sizes, room), bin_bound(sizes, room)))

    def test_sacks(self):
        for room, things in (sack_questions(19, 200, 12, 9, 9) + sack_questions(20, 30, 40, GREATEST, GREATEST)
                             + sack_questions(21, 30, 12, 1, GREATEST)):
            self.assertIsNone(check_sack(room, things, by_weight(room, things), weighing(room, things)))

    def test_places(self):
        for lengths in length_tables(22, 60, 12, 9) + length_tables(23, 20, 12, GREATEST) + length_tables(24, 20, 8, 1):
            for many in range(1, len(lengths) + 1):
                chosen = farthest_next(lengths, many)
                self.assertIsNone(check_places(lengths, many, chosen, far_apart(lengths, many)))

    def test_best_cases(self):
        for question in small_questions(25, 40):
            case, cost, closed = best_by_cases(question, 5000)
            self.assertIsNone(check_best(question, case, cost, closed))


class HoldsAgainstAnyTest(unittest.TestCase):
    """Papers made at random: those that are let by are held against all answers of a small question."""

    def assert_some(self, let_by, least=20):
        self.assertGreater(let_by, least)

    def test_covers(self):
        random = Random(26)
        let_by = 0
        for many, sets in questions(27, 1500, 4, 4, 5):
            chosen = [number for number in range(len(sets)) if random.random() < 0.7]
            prices = [as_told(Fraction(random.randint(0, 4), random.randint(1, 3))) for _ in range(many)]
            if check_cover(many, sets, chosen, prices) is None:
                let_by += 1
                for some in itertools.product((0, 1), repeat=len(sets)):
                    taken = [number for number in range(len(sets)) if some[number]]
                    if set(range(many)) <= {thing for number in taken for thing in sets[number][1]}:
                        other = price_of(sets, taken)
                        self.assertLessEqual(price_of(sets, chosen), as_fraction(cover_share(sets)) * other)
                        self.assertLessEqual(sum(as_fraction(price) for price in prices), other)
        self.assert_some(let_by)

    def test_touchings(self):
        random = Random(28)
        let_by = 0
        for prices, lines in touch_questions(29, 1500, 4, 4, 4):
            chosen = [point for point in range(len(prices)) if random.random() < 0.6]
            paid = [random.randint(0, 2) for _ in lines]
            if check_touch(prices, lines, chosen, paid) is None:
                let_by += 1
                cost = sum(prices[point] for point in chosen)
                for some in itertools.product((0, 1), repeat=len(prices)):
                    if all(some[a] or some[b] for a, b in lines):
                        other = sum(price * one for price, one in zip(prices, some))
                        self.assertLessEqual(cost, 2 * other)
                        self.assertLessEqual(sum(paid), other)
        self.assert_some(let_by)

    def test_rounds(self):
        random = Random(30)
        let_by = 0
        for lengths in length_tables(31, 150, 5, 4):
            count = len(lengths)
            every = list(itertools.combinations(itertools.combinations(range(count), 2), count - 1))
            roads = list(random.choice([tree for tree in every if hang_together(count, tree)]))
            pairs = random.choice(list(all_pairings(odd_ends(roads))))
            way = random.sample(range(count), count)
            if check_round(lengths, way, roads, pairs) is None:
                let_by += 1
                best = min(round_length(lengths, other) for other in all_rounds(count))
                self.assertLessEqual(2 * round_length(lengths, way), 3 * best)
                self.assertLessEqual(roads_length(lengths, roads), best)
                self.assertLessEqual(2 * roads_length(lengths, pairs), best)
        self.assert_some(let_by)

    def test_benches(self):
        random = Random(32)
        let_by = 0
        for works in size_lists(33, 900, 5, 6):
            many = random.randint(1, 3)
            put = [random.randrange(many) for _ in works]
            bound = random.randint(0, 15)
            if check_benches(works, many, put, bound) is None:
                let_by += 1
                best = min(heaviest(works, many, other) for other in all_puttings(len(works), many))
                self.assertLessEqual(heaviest(works, many, put), (Fraction(3, 2) - Fraction(1, 2 * many)) * best)
                self.assertLessEqual(bound, best)
        self.assert_some(let_by)

    def test_bins(self):
        random = Random(34)
        let_by = 0
        for sizes in size_lists(35, 400, 5, 6):
            room = random.randint(6, 10)
            put = random.choice(list(all_puttings(len(sizes), len(sizes))))
            bound = random.randint(0, 4)
            if check_bins(sizes, room, put, bound) is None:
                let_by += 1
                fewest = min(len(set(other)) for other in all_puttings(len(sizes), len(sizes))
                             if max(sums_of(sizes, other).values(), default=0) <= room)
                self.assertLessEqual(2 * len(set(put)), 3 * fewest)
                self.assertLessEqual(bound, fewest)
        self.assert_some(let_by)

    def test_sacks(self):
        random = Random(36)
        let_by = 0
        for room, things in sack_questions(37, 400, 5, 6, 6):
            taken = list(random.choice(list(all_fillings(room, things))))
            price = as_told(Fraction(random.randint(0, 6), random.randint(1, 6)))
            if check_sack(room, things, taken, price) is None:
                let_by += 1
                worth = sum(things[number][0] for number in taken)
                most = max(sum(things[number][0] for number in other) for other in all_fillings(room, things))
                self.assertGreaterEqual(2 * worth, most)
                self.assertGreaterEqual(as_fraction(bound_of(room, things, price)), most)
        self.assert_some(let_by)

    def test_places(self):
        random = Random(38)
        let_by = 0
        for lengths in length_tables(39, 300, 6, 6):
            many = random.randint(1, len(lengths))
            chosen = random.sample(range(len(lengths)), many)
            far = random.sample(range(len(lengths)), min(many + 1, len(lengths)))
            if check_places(lengths, many, chosen, far) is None:
                let_by += 1
                for other in itertools.combinations(range(len(lengths)), many):
                    self.assertLessEqual(radius(lengths, chosen), 2 * radius(lengths, list(other)))
        self.assert_some(let_by)

    def test_best_cases(self):
        random = Random(40)
        let_by = 0
        for question in small_questions(41, 20):
            wholes = whole_cases(question)
            best = min(question.low(case) for case in wholes)
            _, _, closed = best_by_cases(question, 5000)
            for case in random.sample(wholes, min(len(wholes), 12)):
                for cost in (question.low(case), best):
                    for cases in (closed, wholes):
                        if check_best(question, case, cost, cases) is None:
                            let_by += 1
                            self.assertEqual(cost, best)
                            self.assertEqual(question.low(case), best)
        self.assert_some(let_by)

    def test_spoiled_closed_cases(self):
        # A list may still part all, where a case has but one way; but then its cost is the best one, too.
        random = Random(42)
        refused = 0
        for question in small_questions(43, 20):
            best = min(question.low(case) for case in whole_cases(question))
            case, cost, closed = best_by_cases(question, 5000)
            for _ in range(10):
                spot = random.randrange(len(closed))
                odd = closed[:spot] + [tuple(spoiled_list(random, closed[spot]))] + closed[spot + 1:]
                for least in (cost, cost - 1, cost + 1):
                    if check_best(question, case, least, odd) is None:
                        self.assertEqual(least, best)
                    else:
                        refused += 1
        self.assert_some(refused)


class HouseHoldsTest(unittest.TestCase):

    def test_cost_bound_share_and_best(self):
        texts = ["cover 4\n3/2 0 1\n2 1 2\n5/2 2 3\n4 0 3\n1 1", "touch 3 1/2 2 5/3\n0 1\n1 2\n2 3\n3 0",
                 "round\n0 3 4 2\n3 0 5 3\n4 5 0 6\n2 3 6 0", "places 2\n0 3 4 2\n3 0 5 3\n4 5 0 6\n2 3 6 0",
                 "benches 2 3 3 2 2 2", "benches 3 5/2 7/3 1/2 4 4 3", "bins 6 3 3 4 2 2 5 1", "cover 1\n1/7 0",
                 "bins 10 5 6 5 6 4 4"]
        for text in texts:
            rows = dict(row.split(" ", 1) for row in house_answer(text).split("\n")[1:])
            cost, bound, share = (Fraction(rows[name]) for name in ("cost", "bound", "share"))
            best = Fraction(best_told(text).split(" ")[1])
            self.assertLessEqual(cost, share * best)
            self.assertLessEqual(bound, best)
            self.assertLessEqual(best, cost)

    def test_sacks(self):
        for text in ("sack 5\n4 3\n9 6\n2 2\n1/2 1/3", "sack 10\n2 1\n10 10", "sack 7/2\n1 1\n5/3 2\n2 5/2\n1/3 1/4"):
            rows = dict(row.split(" ", 1) for row in house_answer(text).split("\n")[1:])
            cost, bound, share = (Fraction(rows[name]) for name in ("cost", "bound", "share"))
            best = Fraction(best_told(text).split(" ")[1])
            self.assertGreaterEqual(cost, share * bound)
            self.assertGreaterEqual(bound, best)
            self.assertGreaterEqual(best, cost)


if __name__ == "__main__":
    unittest.main()
