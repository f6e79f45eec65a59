"""Points 41 to 43, the refusals behind NoText, and of point 44 how amounts are written."""

import math
import re
import unittest
from fractions import Fraction
from random import Random

from goodenough.errors import EnoughError, NoCover, NoLengths, NoRoom, NoText
from goodenough.lengths import look_at
from goodenough.texts import read, shown_amount

NUMBER = re.compile(r"0|[1-9][0-9]{0,11}", re.ASCII)
GOOD_AMOUNTS = ("0", "1", "7", "12", "999999999999", "1/2", "5/12", "999999999999/8", "7/3", "100000000001/12")
# The last two rows are no whole word, or more than one.
BAD_AMOUNTS = ("00", "01", "0012", "1000000000000", "1/1", "0/1", "0/2", "2/4", "6/4", "12/12", "1/13", "1/0", "3/02",
               "03/2", "1/1000000000000", "1000000000000/7", "-1", "+1", "1.5", "1e3", "a", "x1", "1x", "1/a", "a/2",
               "1/", "/2", "/", "1/2/3", "1//2", "-1/2", "1/-2", "\t1", "1_0", "1,5", "~", "#", "1;",
               "", " ", "1 ", " 1")


def amount_of(word):
    """What a word is as an amount, or None."""
    parts = word.split("/")
    if len(parts) > 2 or not all(NUMBER.fullmatch(part) for part in parts):
        return None
    numbers = [int(part) for part in parts]
    if len(numbers) == 2 and not (2 <= numbers[1] <= 12 and math.gcd(*numbers) == 1):
        return None
    return Fraction(*numbers)


def in_bounds(word, least, most):
    return bool(NUMBER.fullmatch(word)) and least <= int(word) <= most


def first_line_holds(kind, words):
    rest = words[1:]
    amounts = [amount_of(word) for word in rest]
    if kind == "cover":
        return len(rest) == 1 and in_bounds(rest[0], 1, 40)
    if kind == "touch":
        return 1 <= len(rest) <= 40 and None not in amounts
    if kind == "round":
        return len(rest) == 0
    if kind == "places":
        return len(rest) == 1 and in_bounds(rest[0], 1, 12)
    if kind == "benches":
        return 1 <= len(rest) <= 41 and in_bounds(rest[0], 1, 20) and not {None, 0} & set(amounts[1:])
    if kind == "bins":
        return 1 <= len(rest) <= 41 and not {None, 0} & set(amounts)
    return kind == "sack" and len(rest) == 1 and amounts[0] is not None


def later_line_holds(rows, number):
    kind, words = rows[0][0], rows[number]
    amounts = [amount_of(word) for word in words]
    if kind == "cover":
        things = words[1:]
        return (number <= 40 and amounts[0] is not None and len(set(things)) == len(things)
                and all(in_bounds(word, 0, int(rows[0][1]) - 1) for word in things))
    if kind == "touch":
        return (number <= 80 and len(words) == 2 and words[0] != words[1]
                and all(in_bounds(word, 0, len(rows[0]) - 2) for word in words))
    if kind in ("round", "places"):
        return number <= len(rows[1]) <= 12 and len(words) == len(rows[1]) and None not in amounts
    if kind == "sack":
        return number <= 40 and len(words) == 2 and None not in amounts and amounts[1] > 0
    return False


def faulty_line(text):
    """The line that NoText has to tell, or None where the text is as point 41 tells."""
    rows = [line.split(" ") for line in text.split("\n")]
    kind = rows[0][0]
    if not first_line_holds(kind, rows[0]):
        return 0
    for number in range(1, len(rows)):
        if not later_line_holds(rows, number):
            return number
    if kind in ("round", "places"):
        if len(rows) == 1 or len(rows) - 1 < len(rows[1]):
            return len(rows)
        if kind == "places" and int(rows[0][1]) > len(rows) - 1:
            return 0
    return None


def wanted_reading(text):
    """What a text without faults says: its kind, its unit, and what is given."""
    rows = [line.split(" ") for line in text.split("\n")]
    kind, rest = rows[0][0], rows[0][1:]
    written = {"cover": [row[0] for row in rows[1:]], "touch": rest, "benches": rest[1:], "bins": rest,
               "sack": rest + [word for row in rows[1:] for word in row]}
    words = written.get(kind, [word for row in rows[1:] for word in row])
    unit = math.lcm(*[amount_of(word).denominator for word in words])

    def whole(word):
        return int(amount_of(word) * unit)

    if kind == "cover":
        given = (int(rest[0]), [(whole(row[0]), [int(word) for word in row[1:]]) for row in rows[1:]])
    elif kind == "touch":
        given = ([whole(word) for word in rest], [(int(row[0]), int(row[1])) for row in rows[1:]])
    elif kind == "benches":
        given = ([whole(word) for word in rest[1:]], int(rest[0]))
    elif kind == "bins":
        given = ([whole(word) for word in rest[1:]], whole(rest[0]))
    elif kind == "sack":
        given = (whole(rest[0]), [(whole(row[0]), whole(row[1])) for row in rows[1:]])
    else:
        given = ([[whole(word) for word in row] for row in rows[1:]],) + tuple(int(word) for word in rest)
    return (kind, unit, given)


def refusal_behind(kind, given):
    """The refusal that a text without faults meets, or None."""
    if kind == "cover":
        missing = set(range(given[0])) - {thing for _, things in given[1] for thing in things}
        return (NoCover, min(missing)) if missing else None
    if kind == "bins":
        great = [number for number, size in enumerate(given[0]) if size > given[1]]
        return (NoRoom, great[0]) if great else None
    if kind in ("round", "places"):
        try:
            look_at(given[0])
        except NoLengths:
            return (NoLengths, None)
    return None


class TextsTest(unittest.TestCase):

    def assert_fault(self, text, line):
        with self.assertRaises(NoText, msg=repr(text)) as caught:
            read(text)
        self.assertEqual(caught.exception.line, line, repr(text))
        self.assertIs(type(caught.exception.line), int)

    def assert_read(self, text, told):
        self.assertEqual(read(text), told)
        self.assert_kinds(read(text))

    def assert_kinds(self, told):
        self.assertIs(type(told), tuple)
        self.assertEqual([type(part) for part in told], [str, int, tuple])
        for part in told[2]:
            self.assertIn(type(part), (int, list))
            if isinstance(part, list):
                for one in part:
                    self.assertIn(type(one), (int, tuple, list))


class ReadTest(TextsTest):

    def test_cover(self):
        self.assert_read("cover 3\n2 0 2\n5 1", ("cover", 1, (3, [(2, [0, 2]), (5, [1])])))
        self.assert_read("cover 1\n7/2\n0 0", ("cover", 2, (1, [(7, []), (0, [0])])))
        self.assert_read("cover 2\n1/3 1 0\n3/4", ("cover", 12, (2, [(4, [1, 0]), (9, [])])))

    def test_touch(self):
        self.assert_read("touch 5", ("touch", 1, ([5], [])))
        self.assert_read("touch 1/2 0 3\n2 0\n0 2\n1 2", ("touch", 2, ([1, 0, 6], [(2, 0), (0, 2), (1, 2)])))

    def test_round(self):
        self.assert_read("round\n0", ("round", 1, ([[0]],)))
        self.assert_read("round\n0 3/2\n3/2 0", ("round", 2, ([[0, 3], [3, 0]],)))

    def test_places(self):
        self.assert_read("places 1\n0", ("places", 1, ([[0]], 1)))
        self.assert_read("places 2\n0 5/3\n5/3 0", ("places", 3, ([[0, 5], [5, 0]], 2)))

    def test_benches(self):
        self.assert_read("benches 20", ("benches", 1, ([], 20)))
        self.assert_read("benches 2 3 1/2 4", ("benches", 2, ([6, 1, 8], 2)))

    def test_bins(self):
        self.assert_read("bins 7/2", ("bins", 2, ([], 7)))
        self.assert_read("bins 3 1/4 3 2", ("bins", 4, ([1, 12, 8], 12)))

    def test_sack(self):
        self.assert_read("sack 0", ("sack", 1, (0, [])))
        self.assert_read("sack 5/2\n0 1/3\n4 2", ("sack", 6, (15, [(0, 2), (24, 12)])))

    def test_the_unit_of_several_bottoms(self):
        every = " ".join(f"1/{bottom}" for bottom in range(2, 13))
        told = read(f"benches 1 {every} 999999999999")
        self.assertEqual(told[1], 27720)
        self.assertEqual(told[2][0], [27720 // bottom for bottom in range(2, 13)] + [999999999999 * 27720])
        for text, unit in (("bins 1/2 1/2", 2), ("bins 1/4 1/6", 12), ("bins 5/12 1/4 1/3", 12), ("bins 3 1/7", 7),
                           ("bins 1/8 1/12", 24), ("bins 9/10 1/4", 20), ("bins 3 1 2", 1), ("touch 1/11 1/2", 22),
                           ("sack 1/5", 5), ("sack 1/5\n1/2 1", 10), ("sack 1\n1/2 1/3", 6), ("cover 2\n1/2 0 1", 2),
                           ("round\n0 1/9\n1/9 0", 9), ("places 1\n0 1/9\n1/9 0", 9), ("benches 12", 1)):
            self.assertEqual(read(text)[1], unit, text)

    def test_great_numbers_and_good_amounts(self):
        for word in GOOD_AMOUNTS:
            amount = amount_of(word)
            unit = amount.denominator
            self.assert_read(f"sack {word}", ("sack", unit, (int(amount * unit), [])))

    def test_what_is_told_belongs_to_who_asked(self):
        for text in ("cover 2\n1 0 1\n2", "touch 1 2\n0 1", "round\n0 1\n1 0", "benches 2 3 4", "bins 5 1 2",
                     "sack 4\n1 2"):
            wanted = read(text)
            told = read(text)
            for part in told[2]:
                if isinstance(part, list):
                    if isinstance(part[0], list):
                        part[0].append(99)
                    part.reverse()
                    part.append(99)
            self.assertEqual(read(text), wanted)


class FirstLineTest(TextsTest):

    def test_no_kind(self):
        for text in ("", " ", "\n", "covers 3", "Cover 3", "COVER 3", "cov", "tree", "0", "cover3\n1 0", " cover 3",
                     "\ncover 3\n1 0 1 2", "rounds", "place 1", "bench 1", "bin 1", "take 1", "best 1", "cover\t3"):
            self.assert_fault(text, 0)

    def test_words_too_many_or_too_few(self):
        for text in ("cover", "cover 1 1\n1 0", "touch", "round 1\n0", "round \n0", "places", "places 1 1\n0",
                     "benches", "bins", "sack", "sack 1 1", "cover ", "touch ", "places ", "benches ", "bins ",
                     "sack "):
            self.assert_fault(text, 0)

    def test_blanks(self):
        for text in ("cover  3\n1 0 1 2", "cover 3 \n1 0 1 2", " touch 3", "touch 3 ", "touch  3", "touch 3  4",
                     "bins 3 ", "bins  3", "bins 3  1", "benches 3 ", "benches 3  1", "sack 3 ", "sack  3",
                     "places  1\n0", "places 1 \n0", "round \n0", " round\n0"):
            self.assert_fault(text, 0)

    def test_numbers_within_their_bounds(self):
        for text in ("cover 0\n1", "cover 41\n1", "cover 1/2\n1", "cover 02\n1 0 1", "cover -1\n1", "cover 4/2\n1 0 1",
                     "places 0\n0", "places 13\n0", "places 01\n0", "places 1/2\n0", "benches 0", "benches 21",
                     "benches 1/2", "benches 3/2 1", "benches 01 1", "benches a", "bins 0", "bins 0 1", "bins 01",
                     "bins 1000000000000", "cover 1000000000000\n1", "benches 1000000000001"):
            self.assert_fault(text, 0)
        self.assert_read("benches 1 1", ("benches", 1, ([1], 1)))
        self.assert_read("benches 20 1", ("benches", 1, ([1], 20)))
        self.assertEqual(read("cover 40\n1 " + " ".join(str(k) for k in range(40)))[2][0], 40)

    def test_bad_amounts(self):
        for word in BAD_AMOUNTS:
            for text in (f"touch {word}", f"touch 1 {word} 2", f"benches 2 {word}", f"benches 2 1 {word}",
                         f"bins {word}", f"bins 9 {word}", f"bins 9 1 {word} 1", f"sack {word}"):
                self.assert_fault(text, 0)

    def test_sizes_above_nought(self):
        for text in ("benches 2 0", "benches 2 1 0", "bins 5 0", "bins 5 1 0 1"):
            self.assert_fault(text, 0)
        self.assert_read("touch 0 0\n0 1", ("touch", 1, ([0, 0], [(0, 1)])))

    def test_as_many_as_the_bounds_allow_and_one_more(self):
        for start in ("touch", "benches 3", "bins 9"):
            read(start + " 1" * 40)
            self.assert_fault(start + " 1" * 41, 0)
            self.assert_fault(start + " 1" * 41 + "\n0 1", 0)

    def test_a_line_behind_the_last(self):
        for text in ("benches 2 1", "benches 2", "bins 5 1", "bins 5"):
            for more in ("\n", "\n1", "\n\n", "\n1 2\n3"):
                self.assert_fault(text + more, 1)


class LaterLinesTest(TextsTest):

    def test_bad_amounts_at_each_line(self):
        for word in BAD_AMOUNTS:
            for line in (1, 2, 3):
                rows = ["cover 2", "1 0 1", "1 0", "2 1"]
                rows[line] = f"{word} 0"
                self.assert_fault("\n".join(rows), line)
                for bad in (f"{word} 1", f"1 {word}"):
                    rows = ["sack 9", "1 1", "2 2", "3 3"]
                    rows[line] = bad
                    self.assert_fault("\n".join(rows), line)
                for kind in ("round", "places 2"):
                    for bad in (f"{word} 1 1", f"1 {word} 1", f"1 1 {word}"):
                        rows = [kind, "0 1 1", "1 0 1", "1 1 0"]
                        rows[line] = bad
                        self.assert_fault("\n".join(rows), line)

    def test_numbers_of_things_and_points_are_figures_alone(self):
        for word in BAD_AMOUNTS + ("1/2", "5/12", "3", "40", "999999999999"):
            for line in (1, 2, 3):
                rows = ["cover 3", "1 0 1", "1 0 2", "2 1"]
                rows[line] = f"1 0 {word}"
                self.assert_fault("\n".join(rows), line)
                for bad in (f"{word} 1", f"1 {word}"):
                    rows = ["touch 4 5 6", "0 1", "1 2", "0 2"]
                    rows[line] = bad
                    self.assert_fault("\n".join(rows), line)

    def test_unlike_ones(self):
        self.assert_fault("cover 3\n1 0 1 2\n1 1 1", 2)
        self.assert_fault("cover 3\n1 0 1 2 0\n1 1", 1)
        self.assert_fault("touch 1 2\n0 1\n1 1", 2)
        self.assert_fault("touch 1 2\n0 0", 1)
        self.assert_fault("touch 1\n0 0", 1)

    def test_words_too_many_or_too_few(self):
        for line in (1, 2):
            for bad in ("0", "0 1 0", "", " ", "0 1 ", " 0 1", "0  1"):
                rows = ["touch 1 2 3", "0 1", "1 2"]
                rows[line] = bad
                self.assert_fault("\n".join(rows), line)
            for bad in ("1", "1 2 3", "", " ", "1 2 ", " 1 2", "1  2"):
                rows = ["sack 9", "1 1", "1 2"]
                rows[line] = bad
                self.assert_fault("\n".join(rows), line)
            for bad in ("", " ", "1 ", " 1", "1  0"):
                rows = ["cover 1", "1 0", "1"]
                rows[line] = bad
                self.assert_fault("\n".join(rows), line)
        for line in (2, 3):
            for bad in ("0", "0 1", "0 1 1 1", "", "0 1 1 ", " 0 1 1"):
                for kind in ("round", "places 3"):
                    rows = [kind, "0 1 1", "1 0 1", "1 1 0"]
                    rows[line] = bad
                    self.assert_fault("\n".join(rows), line)

    def test_weights_above_nought(self):
        self.assert_fault("sack 5\n0 1\n1 0", 2)
        self.assert_fault("sack 5\n0 0\n1 0", 1)
        self.assert_read("sack 5\n0 1", ("sack", 1, (5, [(0, 1)])))

    def test_a_line_end_at_the_texts_end(self):
        for text, line in (("cover 1\n1 0\n", 2), ("cover 1\n", 1), ("touch 1 2\n0 1\n", 2), ("touch 1\n", 1),
                           ("round\n0\n", 2), ("round\n", 1), ("round\n0 1\n1 0\n", 3), ("places 1\n0\n", 2),
                           ("places 1\n", 1), ("sack 1\n", 1), ("sack 1\n1 1\n", 2), ("benches 1 1\n", 1),
                           ("bins 1\n", 1)):
            self.assert_fault(text, line)

    def test_as_many_lines_as_the_bounds_allow_and_one_more(self):
        cover = "cover 1" + "\n1 0" * 40
        self.assertEqual(len(read(cover)[2][1]), 40)
        self.assert_fault(cover + "\n1 0", 41)
        self.assert_fault(cover + "\n1 0\n", 41)
        self.assert_fault(cover + "\n1 0\nx", 41)
        self.assert_fault(cover + "\n", 41)
        touch = "touch 1 2" + "\n0 1" * 80
        self.assertEqual(len(read(touch)[2][1]), 80)
        self.assert_fault(touch + "\n0 1", 81)
        sack = "sack 9" + "\n1 1" * 40
        self.assertEqual(len(read(sack)[2][1]), 40)
        self.assert_fault(sack + "\n1 1", 41)
        self.assert_fault(sack.replace("1 1", "1 0") + "\n1 1", 1)

    def test_tables(self):
        for count in (1, 2, 3, 11, 12):
            rows = [" ".join("0" if a == b else "4" for b in range(count)) for a in range(count)]
            for kind in ("round", "places 1", f"places {count}"):
                text = "\n".join([kind] + rows)
                self.assertEqual(len(read(text)[2][0]), count)
                self.assert_fault(text + "\n" + rows[0], count + 1)
                if count > 1:
                    self.assert_fault("\n".join([kind] + rows[:-1]), count)
                    self.assert_fault("\n".join([kind] + rows[1:] + [rows[0] + " 4"]), count)
        rows = [" ".join(["0"] * 13)] * 13
        for kind in ("round", "places 1"):
            self.assert_fault("\n".join([kind] + rows), 1)
            self.assert_fault("\n".join([kind] + rows[:12]), 1)
            self.assert_fault(kind, 1)
            self.assert_fault(kind + "\n0 1", 2)

    def test_too_many_places_to_choose(self):
        self.assert_fault("places 2\n0", 0)
        self.assert_fault("places 12\n0 1\n1 0", 0)
        self.assert_fault("places 3\n0 1\n1 0", 0)
        # Beyond 12 at once; else behind all lines, those that aren't there among them.
        self.assert_fault("places 13\n0 x\n1 0", 0)
        self.assert_fault("places 3\n0 1\n1 x", 2)
        self.assert_fault("places 3\n0 1\n1 0\n0 0", 3)
        self.assert_fault("places 3\n0 1", 2)
        self.assert_fault("places 12", 1)
        # Ahead of what is wrong with the lengths.
        self.assert_fault("places 3\n0 1\n2 0", 0)
        self.assert_fault("places 2\n7", 0)

    def test_two_faults(self):
        for text, line in (("cover 2\n1 5\nx", 1), ("cover 2\n1 0 1\nx\n1 7", 2), ("cover 0\nx", 0),
                           ("touch x\n0 0", 0), ("touch 1 1\n0 0\n7 7", 1), ("sack 1\n1 1\n1 0\n1 0 0", 2),
                           ("round x\ny", 0),
                           ("round\n0 1\n1\nx x", 2), ("benches 0 0\n1", 0), ("bins x\n", 0), ("sack x\nx", 0),
                           ("places 0\nx", 0), ("round\n0 1 1\n1 0 1\n\n", 3)):
            self.assert_fault(text, line)


class BehindTest(TextsTest):

    def assert_refused(self, text, kind, thing=None):
        with self.assertRaises(EnoughError) as caught:
            read(text)
        self.assertIs(type(caught.exception), kind, repr(text))
        if thing is not None:
            self.assertEqual(caught.exception.thing, thing)

    def test_no_cover(self):
        self.assert_refused("cover 1", NoCover, 0)
        self.assert_refused("cover 40", NoCover, 0)
        self.assert_refused("cover 3\n1 0\n2 2", NoCover, 1)
        self.assert_refused("cover 3\n1/2", NoCover, 0)
        self.assert_fault("cover 3\n1 0\nx", 2)

    def test_no_lengths(self):
        for kind in ("round", "places 1"):
            for table in ("1", "0 1\n2 0", "0 1\n1 1/2", "0 1 3\n1 0 1\n3 1 0", "0 1/2 1\n1/2 0 1/3\n1 1/3 0"):
                self.assert_refused(f"{kind}\n{table}", NoLengths)
            self.assert_fault(f"{kind}\n1 1\n2 x", 2)
            read(f"{kind}\n0 1/2 5/6\n1/2 0 1/3\n5/6 1/3 0")

    def test_no_room(self):
        self.assert_refused("bins 1 2", NoRoom, 0)
        self.assert_refused("bins 1/2 1/2 1/3 2/3 5", NoRoom, 2)
        self.assert_fault("bins 1 2 x", 0)
        self.assert_fault("bins 1 2\n", 1)


class SeededTest(TextsTest):

    words = GOOD_AMOUNTS + BAD_AMOUNTS + ("2", "3", "11", "13", "20", "21", "40", "41", "cover", "round")

    def made(self, random):
        """A text that is as point 41 tells."""
        def amount(least=0):
            return random.choice(("1", "2", "3", "4", "1/2", "3/2", "5/3", "7/4") + ("0",) * (1 - least))

        kind = random.choice(("cover", "touch", "round", "places", "benches", "bins", "sack"))
        many = random.randint(1, 4)
        if kind == "cover":
            rows = [" ".join([amount()] + [str(k) for k in random.sample(range(many), random.randint(0, many))])
                    for _ in range(random.randint(0, 3))]
            return "\n".join([f"cover {many}"] + rows)
        if kind == "touch":
            rows = ["{} {}".format(*random.sample(range(many + 1), 2)) for _ in range(random.randint(0, 3))]
            return "\n".join([" ".join(["touch"] + [amount() for _ in range(many + 1)])] + rows)
        if kind in ("round", "places"):
            rows = [" ".join("0" if a == b else amount(1) for b in range(many)) for a in range(many)]
            return "\n".join([kind if kind == "round" else f"places {random.randint(1, many + 1)}"] + rows)
        if kind == "benches":
            return " ".join([kind, str(many)] + [amount(1) for _ in range(random.randint(0, 4))])
        if kind == "bins":
            return " ".join([kind, "4"] + [amount(1) for _ in range(random.randint(0, 4))])
        return "\n".join([f"sack {amount()}"] + [f"{amount()} {amount(1)}" for _ in range(random.randint(0, 4))])

    def spoil(self, random, text):
        rows = [line.split(" ") for line in text.split("\n")]
        spot = random.randrange(len(rows))
        row = rows[spot]
        word = random.randrange(len(row))
        change = random.randrange(7)
        if change == 0:
            row[word] = random.choice(self.words)
        elif change == 1:
            row.insert(word + random.randint(0, 1), random.choice(self.words))
        elif change == 2:
            row.pop(word)
        elif change == 3:
            rows.pop(spot)
        elif change == 4:
            rows.insert(spot, list(row))
        elif change == 5:
            rows.insert(spot + 1, [random.choice(self.words)])
        else:
            random.shuffle(rows)
        return "\n".join(" ".join(row) for row in rows)

    def test_seeded_against_the_rule(self):
        random = Random(1)
        seen = {}
        for _ in range(12000):
            text = self.made(random)
            for _ in range(random.choice((0, 0, 1, 1, 2))):
                text = self.spoil(random, text)
            line = faulty_line(text)
            if line is not None:
                self.assert_fault(text, line)
                outcome = NoText
            else:
                told = wanted_reading(text)
                refusal = refusal_behind(told[0], told[2])
                outcome = refusal[0] if refusal else None
                if refusal:
                    with self.assertRaises(EnoughError) as caught:
                        read(text)
                    self.assertIs(type(caught.exception), refusal[0])
                    if refusal[1] is not None:
                        self.assertEqual(caught.exception.thing, refusal[1])
                else:
                    self.assert_read(text, told)
            seen[outcome] = seen.get(outcome, 0) + 1
        self.assertEqual(set(seen), {NoText, NoCover, NoLengths, NoRoom, None})
        self.assertGreater(min(seen.values()), 20)


class ShownAmountTest(unittest.TestCase):

    def test_written_out(self):
        great = 10 ** 199 + 1
        for one, text in (((0, 1), "0"), ((7, 1), "7"), ((7, 2), "7/2"), ((1, 3), "1/3"), ((21, 11), "21/11"),
                          ((10 ** 18, 1), "1000000000000000000"), ((1, 10 ** 18), "1/1000000000000000000"),
                          ((great, 13), f"{great}/13"), ((great, 1), str(great))):
            told = shown_amount(one)
            self.assertIs(type(told), str)
            self.assertEqual(told, text)


if __name__ == "__main__":
    unittest.main()
