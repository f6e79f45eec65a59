"""Points 44 and 45: the house's answers, and the best told."""

import itertools
import unittest
from fractions import Fraction
from random import Random

from goodenough.benches import bench_bound, put_longest_first
from goodenough.bins import bin_bound, greatest_first
from goodenough.covers import cover, cover_prices, cover_share
from goodenough.errors import NoCover, NoLengths, NoRoom, NoText, TooMany
from goodenough.house import best_told, house_answer
from goodenough.lengths import roads_length, round_length
from goodenough.pairings import least_pairing, odd_ends
from goodenough.places import far_apart, farthest_next
from goodenough.rounds import paired_round
from goodenough.sacks import bound_of, by_weight, weighing
from goodenough.texts import read
from goodenough.touches import line_prices, touching
from goodenough.trees import least_tree
from helper import (all_fillings, all_puttings, all_rounds, as_fraction, length_tables, questions, sack_questions,
                    size_lists, sums_of, touch_questions)


def written(amount):
    return str(Fraction(amount))


def with_unit(random):
    """Writes whole numbers as amounts, all of them by one unit: so the text's unit is a divisor of it."""
    unit = random.choice((1, 1, 2, 3, 4, 6, 7, 12))
    return unit, lambda amount: written(Fraction(amount, unit))


def cover_text(write, many, sets):
    rows = [" ".join([write(price)] + [str(thing) for thing in things]) for price, things in sets]
    return "\n".join([f"cover {many}"] + rows)


def touch_text(write, prices, lines):
    return "\n".join([" ".join(["touch"] + [write(price) for price in prices])] + [f"{a} {b}" for a, b in lines])


def table_text(write, first, lengths):
    return "\n".join([first] + [" ".join(write(length) for length in row) for row in lengths])


def row_text(write, first, sizes):
    return " ".join([first] + [write(size) for size in sizes])


def sack_text(write, room, things):
    return "\n".join([f"sack {write(room)}"] + [f"{write(worth)} {write(weight)}" for worth, weight in things])


class HouseTest(unittest.TestCase):

    def assert_answer(self, text, first, numbers, cost, bound, share):
        told = house_answer(text)
        self.assertIs(type(told), str)
        wanted = [" ".join([first] + [str(number) for number in numbers]), f"cost {written(cost)}",
                  f"bound {written(bound)}", f"share {written(share)}"]
        self.assertEqual(told.split("\n"), wanted)
        self.assertEqual(house_answer(text), told)


class WrittenOutTest(unittest.TestCase):

    def assert_rows(self, rows):
        for text, told in rows:
            self.assertEqual(house_answer(text), told)

    def test_cover(self):
        self.assert_rows((
            ("cover 4\n1/2 0 1 2\n9 0\n3 2 3", "take 0 2\ncost 7/2\nbound 21/11\nshare 11/6"),
            ("cover 1\n0 0", "take 0\ncost 0\nbound 0\nshare 1"),
            ("cover 2\n5/3 1\n1/2 0", "take 1 0\ncost 13/6\nbound 13/6\nshare 1"),
        ))

    def test_touch(self):
        self.assert_rows((
            ("touch 3 5/2 4\n0 1\n1 2", "touch 1\ncost 5/2\nbound 5/2\nshare 2"),
            ("touch 3/2 3/2\n1 0", "touch 0 1\ncost 3\nbound 3/2\nshare 2"),
            ("touch 7", "touch\ncost 0\nbound 0\nshare 2"),
        ))

    def test_round_and_places(self):
        self.assert_rows((
            ("round\n0", "round 0\ncost 0\nbound 0\nshare 3/2"),
            ("round\n0 7/4\n7/4 0", "round 0 1\ncost 7/2\nbound 7/2\nshare 3/2"),
            ("places 1\n0", "choose 0\ncost 0\nbound 0\nshare 2"),
            ("places 1\n0 7/3\n7/3 0", "choose 0\ncost 7/3\nbound 7/6\nshare 2"),
            ("places 2\n0 7/3\n7/3 0", "choose 0 1\ncost 0\nbound 0\nshare 2"),
            ("places 2\n0 5 4 2\n5 0 9 3\n4 9 0 6\n2 3 6 0", "choose 0 1\ncost 4\nbound 2\nshare 2"),
        ))

    def test_benches_and_bins(self):
        self.assert_rows((
            ("benches 1", "put\ncost 0\nbound 0\nshare 1"),
            ("benches 3", "put\ncost 0\nbound 0\nshare 4/3"),
            ("benches 2 1/2 2/3 5/12", "put 1 0 1\ncost 11/12\nbound 11/12\nshare 5/4"),
            ("benches 2 1 1/2 1", "put 0 0 1\ncost 3/2\nbound 3/2\nshare 5/4"),
            ("benches 20 1/7", "put 0\ncost 1/7\nbound 1/7\nshare 59/40"),
            ("bins 5/2", "put\ncost 0\nbound 0\nshare 3/2"),
            ("bins 5/2 1 1 1 2", "put 1 1 2 0\ncost 3\nbound 2\nshare 3/2"),
        ))

    def test_the_bound_by_sums_is_of_the_read_amounts(self):
        # 3/2 and 1 and 1 by two benches is 7/4, and read times 2 it is 7 by 2, rounded up: 4, so 2.
        self.assertEqual(house_answer("benches 2 3/2 1 1"), "put 0 1 1\ncost 2\nbound 2\nshare 5/4")
        self.assertEqual(house_answer("benches 3 1/2 1/2 1/2 1/2"), "put 0 1 2 0\ncost 1\nbound 1\nshare 4/3")

    def test_sack(self):
        self.assert_rows((
            ("sack 0", "take\ncost 0\nbound 0\nshare 1/2"),
            ("sack 3\n5 4", "take\ncost 0\nbound 0\nshare 1/2"),
            ("sack 6\n6 3\n9 4\n1 1", "take 1 2\ncost 10\nbound 13\nshare 1/2"),
            ("sack 10/3\n2/3 1/3\n10/3 10/3", "take 1\ncost 10/3\nbound 11/3\nshare 1/2"),
        ))

    def test_refused(self):
        for tell in (house_answer, best_told):
            for text, kind in (("", NoText), ("sack 1\n1", NoText), ("cover 1", NoCover), ("round\n1", NoLengths),
                               ("places 1\n0 1\n2 0", NoLengths), ("bins 1 2", NoRoom), ("places 2\n0", NoText)):
                with self.assertRaises(kind):
                    tell(text)
        with self.assertRaises(NoText) as caught:
            house_answer("sack 1\n1 1\n1 x")
        self.assertEqual(caught.exception.line, 2)


class SeededTest(HouseTest):

    def test_covers(self):
        random = Random(1)
        for many, sets in questions(2, 60, 6, 6, 9):
            if many > 0:
                text = cover_text(with_unit(random)[1], many, sets)
                _, unit, (many, sets) = read(text)
                taken = cover(many, sets)
                bound = sum(as_fraction(price) for price in cover_prices(many, sets))
                cost = sum(sets[number][0] for number in taken)
                self.assert_answer(text, "take", taken, Fraction(cost, unit), bound / unit,
                                   as_fraction(cover_share(sets)))

    def test_touchings(self):
        random = Random(3)
        for prices, lines in touch_questions(4, 60, 6, 8, 9):
            if prices:
                text = touch_text(with_unit(random)[1], prices, lines)
                _, unit, (prices, lines) = read(text)
                points = touching(prices, lines)
                cost = sum(prices[point] for point in points)
                self.assert_answer(text, "touch", points, Fraction(cost, unit),
                                   Fraction(sum(line_prices(prices, lines)), unit), 2)

    def test_rounds(self):
        random = Random(5)
        for lengths in length_tables(6, 60, 8, 9):
            text = table_text(with_unit(random)[1], "round", lengths)
            _, unit, (lengths,) = read(text)
            way = paired_round(lengths)
            tree = least_tree(lengths)
            pairs = least_pairing(lengths, odd_ends(tree))
            bound = max(roads_length(lengths, tree), 2 * roads_length(lengths, pairs))
            self.assert_answer(text, "round", way, Fraction(round_length(lengths, way), unit), Fraction(bound, unit),
                               Fraction(3, 2))

    def test_places(self):
        random = Random(7)
        for lengths in length_tables(8, 80, 7, 9):
            many = random.randint(1, len(lengths))
            text = table_text(with_unit(random)[1], f"places {many}", lengths)
            _, unit, (lengths, many) = read(text)
            chosen = farthest_next(lengths, many)
            cost = max(min(row[place] for place in chosen) for row in lengths)
            apart = 0
            if many < len(lengths):
                apart = min(lengths[a][b] for a, b in itertools.combinations(far_apart(lengths, many), 2))
            self.assert_answer(text, "choose", chosen, Fraction(cost, unit), Fraction(apart, 2 * unit), 2)

    def test_benches(self):
        random = Random(9)
        for works in size_lists(10, 80, 8, 9):
            many = random.choice((1, 2, 3, 20))
            text = row_text(with_unit(random)[1], f"benches {many}", works)
            _, unit, (works, many) = read(text)
            put = put_longest_first(works, many)
            cost = max(sums_of(works, put).values(), default=0)
            self.assert_answer(text, "put", put, Fraction(cost, unit), Fraction(bench_bound(works, many), unit),
                               Fraction(3, 2) - Fraction(1, 2 * many))

    def test_bins(self):
        random = Random(11)
        for sizes in size_lists(12, 80, 8, 9):
            write = with_unit(random)[1]
            text = row_text(write, f"bins {write(random.randint(9, 15))}", sizes)
            _, _, (sizes, room) = read(text)
            put = greatest_first(sizes, room)
            self.assert_answer(text, "put", put, len(set(put)), bin_bound(sizes, room), Fraction(3, 2))

    def test_sacks(self):
        random = Random(13)
        for room, things in sack_questions(14, 80, 8, 9, 9):
            text = sack_text(with_unit(random)[1], room, things)
            _, unit, (room, things) = read(text)
            taken = by_weight(room, things)
            cost = sum(things[number][0] for number in taken)
            bound = as_fraction(bound_of(room, things, weighing(room, things)))
            self.assert_answer(text, "take", taken, Fraction(cost, unit), bound / unit, Fraction(1, 2))


class BestToldTest(unittest.TestCase):

    def test_written_out(self):
        for text, told in (
            ("cover 4\n1/2 0 1 2\n9 0\n3 2 3", "best 7/2"), ("cover 1\n0 0\n5", "best 0"),
            ("touch 3 5/2 4\n0 1\n1 2", "best 5/2"), ("touch 3/2 3/2\n1 0", "best 3/2"), ("touch 7", "best 0"),
            ("round\n0", "best 0"), ("round\n0 7/4\n7/4 0", "best 7/2"),
            ("places 1\n0", "best 0"), ("places 1\n0 7/3\n7/3 0", "best 7/3"), ("places 2\n0 7/3\n7/3 0", "best 0"),
            ("benches 3", "best 0"), ("benches 2 1/2 2/3 5/12", "best 11/12"), ("benches 2 3 3 2 2 2", "best 6"),
            ("bins 5/2", "best 0"), ("bins 5/2 1 1 1 2", "best 3"), ("bins 1/2 1/4 1/4", "best 1"),
            ("sack 0", "best 0"), ("sack 3\n5 4", "best 0"), ("sack 5\n4 3\n9 6\n2 2\n1/2 1/3", "best 6"),
        ):
            self.assertEqual(best_told(text), told)
            self.assertEqual(best_told(text, 5000), told)
            self.assertIs(type(best_told(text)), str)

    def assert_best(self, text, best):
        self.assertEqual(best_told(text, 5000), f"best {written(best)}")

    def test_covers_and_touchings_against_all(self):
        random = Random(1)
        for many, sets in questions(2, 30, 5, 5, 9):
            unit, write = with_unit(random)
            if many > 0:
                chosen = itertools.product((0, 1), repeat=len(sets))
                taken = [[sets[k] for k in range(len(sets)) if one[k]] for one in chosen]
                costs = [sum(price for price, _ in some) for some in taken
                         if set(range(many)) <= {thing for _, things in some for thing in things}]
                self.assert_best(cover_text(write, many, sets), Fraction(min(costs), unit))
        for prices, lines in touch_questions(3, 30, 5, 6, 9):
            unit, write = with_unit(random)
            if prices:
                costs = [sum(price * one for price, one in zip(prices, chosen))
                         for chosen in itertools.product((0, 1), repeat=len(prices))
                         if all(chosen[a] or chosen[b] for a, b in lines)]
                self.assert_best(touch_text(write, prices, lines), Fraction(min(costs), unit))

    def test_rounds_and_places_against_all(self):
        random = Random(4)
        for lengths in length_tables(5, 30, 6, 9):
            unit, write = with_unit(random)
            best = min(round_length(lengths, way) for way in all_rounds(len(lengths)))
            self.assert_best(table_text(write, "round", lengths), Fraction(best, unit))
            many = random.randint(1, len(lengths))
            best = min(max(min(row[place] for place in some) for row in lengths)
                       for some in itertools.combinations(range(len(lengths)), many))
            self.assert_best(table_text(write, f"places {many}", lengths), Fraction(best, unit))

    def test_benches_and_bins_against_all(self):
        random = Random(6)
        for sizes in size_lists(7, 40, 6, 9):
            unit, write = with_unit(random)
            many = random.randint(1, 4)
            best = min(max(sums_of(sizes, put).values(), default=0) for put in all_puttings(len(sizes), many))
            # What no heaviest goes below is rounded up for amounts that are read times the text's unit.
            self.assert_best(row_text(write, f"benches {many}", sizes), Fraction(best, unit))
            room = random.randint(9, 14)
            fewest = min(len(set(put)) for put in all_puttings(len(sizes), len(sizes))
                         if max(sums_of(sizes, put).values(), default=0) <= room)
            self.assert_best(row_text(write, f"bins {write(room)}", sizes), fewest)

    def test_sacks_against_all(self):
        random = Random(8)
        for room, things in sack_questions(9, 40, 6, 9, 6):
            unit, write = with_unit(random)
            best = max(sum(things[number][0] for number in taken) for taken in all_fillings(room, things))
            self.assert_best(sack_text(write, room, things), Fraction(best, unit))

    def test_just_enough_and_one_less(self):
        # For one: of the sack with a thing that fits, (), (0,) and (1,) are looked at.
        for text, count in (("cover 1\n0 0", 2), ("touch 1 1\n0 1", 4), ("round\n0", 1), ("round\n0 1\n1 0", 2),
                            ("places 1\n0 1\n1 0", 3), ("benches 2", 1), ("benches 2 1", 2), ("bins 1", 1),
                            ("bins 1 1", 2), ("sack 1", 1), ("sack 1\n1 1", 3), ("sack 1\n1 2", 2)):
            told = best_told(text, count)
            self.assertEqual(told, best_told(text))
            if count > 1:
                with self.assertRaises(TooMany):
                    best_told(text, count - 1)
                self.assertEqual(best_told(text, count), told)

    def test_most_left_out_is_two_thousand(self):
        # These thirteen things make 1999 cases; each thing ahead of them that doesn't fit makes one more.
        things = "".join(f"\n{number % 6 + 1} 1" for number in range(13))
        for ahead in (0, 1):
            self.assertEqual(best_told("sack 6" + "\n9 7" * ahead + things), "best 30")
        with self.assertRaises(TooMany):
            best_told("sack 6" + "\n9 7" * 2 + things)
        self.assertEqual(best_told("sack 6" + "\n9 7" * 2 + things, 2001), "best 30")
        with self.assertRaises(TooMany):
            best_told("sack 6" + things, 1998)

    def test_too_many_at_the_greatest(self):
        apart = "\n".join(["round"] + [" ".join("0" if a == b else "5" for b in range(12)) for a in range(12)])
        for most in (1, 2000, 5000):
            with self.assertRaises(TooMany):
                best_told(apart, most)
        self.assertEqual(best_told("round" + ("\n" + " ".join(["0"] * 12)) * 12), "best 0")


if __name__ == "__main__":
    unittest.main()
