"""What several test files need: fractions as Python has them, and cover questions made by a seed."""

import math
from fractions import Fraction
from random import Random


def as_fraction(told):
    return Fraction(told[0], told[1])


def as_told(fraction):
    return (fraction.numerator, fraction.denominator)


def assert_shortest(case, told):
    case.assertIs(type(told), tuple)
    case.assertEqual(len(told), 2)
    case.assertIs(type(told[0]), int)
    case.assertIs(type(told[1]), int)
    case.assertGreater(told[1], 0)
    case.assertEqual(math.gcd(told[0], told[1]), 1)


def assert_whole_numbers(case, told):
    case.assertIs(type(told), list)
    for number in told:
        case.assertIs(type(number), int)


def assert_fractions(case, told):
    case.assertIs(type(told), list)
    for fraction in told:
        assert_shortest(case, fraction)


def coverable(random, many, count, most_price):
    """A question of many things in which each thing is in a set, things in any order."""
    sets = []
    for _ in range(count):
        things = random.sample(range(many), random.randint(0, many))
        sets.append((random.randint(0, most_price), things))
    held = {thing for _, things in sets for thing in things}
    missing = [thing for thing in range(many) if thing not in held]
    if missing:
        random.shuffle(missing)
        sets.append((random.randint(0, most_price), missing))
    return sets


def questions(seed, count, most_things, most_sets, most_price):
    random = Random(seed)
    made = []
    for _ in range(count):
        many = random.randint(0, most_things)
        made.append((many, coverable(random, many, random.randint(0, most_sets), most_price)))
    return made
