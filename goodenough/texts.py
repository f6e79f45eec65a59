"""Questions read from texts, and amounts written into them."""

from goodenough.bins import refuse_too_great
from goodenough.covers import refuse_missing
from goodenough.errors import NoText
from goodenough.lengths import look_at
from goodenough.shares import common_factor, common_multiple

FIGURES = "0123456789"
MOST_FIGURES = 12
MOST_BOTTOM = 12
MOST_THINGS = 40
MOST_LINES = 80
MOST_PLACES = 12
MOST_BENCHES = 20


def refuse_where(wrong, line):
    if wrong:
        raise NoText(line)


def is_number(word):
    if len(word) == 0 or len(word) > MOST_FIGURES:
        return False
    if any([sign not in FIGURES for sign in word]):
        return False
    return word[0] != "0" or word == "0"


def number_in(word, least, most, line):
    refuse_where(not is_number(word), line)
    number = int(word)
    refuse_where(number < least or number > most, line)
    return number


def amount_in(word, line):
    # As a fraction: what it is times the unit is known only when all of the text has been read.
    parts = word.split("/")
    refuse_where(len(parts) > 2, line)
    refuse_where(not all([is_number(part) for part in parts]), line)
    top = int(parts[0])
    if len(parts) == 1:
        return (top, 1)
    bottom = int(parts[1])
    refuse_where(bottom < 2 or bottom > MOST_BOTTOM, line)
    refuse_where(common_factor(top, bottom) > 1, line)
    return (top, bottom)


def amount_above_nought(word, line):
    amount = amount_in(word, line)
    refuse_where(amount[0] == 0, line)
    return amount


def unit_of(amounts):
    unit = 1
    for amount in amounts:
        unit = common_multiple(unit, amount[1])
    return unit


def by_the_unit(amount, unit):
    return amount[0] * (unit // amount[1])


def all_by_the_unit(amounts, unit):
    return [by_the_unit(amount, unit) for amount in amounts]


def refuse_word_count(words, least, most, line):
    refuse_where(len(words) < least or len(words) > most, line)


def set_in(words, many, line):
    price = amount_in(words[0], line)
    things = []
    for word in words[1:]:
        thing = number_in(word, 0, many - 1, line)
        refuse_where(thing in things, line)
        things.append(thing)
    return (price, things)


def read_cover(rows):
    refuse_word_count(rows[0], 2, 2, 0)
    many = number_in(rows[0][1], 1, MOST_THINGS, 0)
    sets = []
    for line in range(1, len(rows)):
        refuse_where(line > MOST_THINGS, line)
        sets.append(set_in(rows[line], many, line))
    unit = unit_of([price for price, things in sets])
    return (unit, (many, [(by_the_unit(price, unit), things) for price, things in sets]))


def line_in(words, points, line):
    refuse_word_count(words, 2, 2, line)
    one = number_in(words[0], 0, points - 1, line)
    other = number_in(words[1], 0, points - 1, line)
    refuse_where(one == other, line)
    return (one, other)


def read_touch(rows):
    refuse_word_count(rows[0], 2, 1 + MOST_THINGS, 0)
    prices = [amount_in(word, 0) for word in rows[0][1:]]
    lines = []
    for line in range(1, len(rows)):
        refuse_where(line > MOST_LINES, line)
        lines.append(line_in(rows[line], len(prices), line))
    unit = unit_of(prices)
    return (unit, (all_by_the_unit(prices, unit), lines))


def table_in(rows):
    # Behind the last line there is the one that is wanted and isn't there.
    refuse_where(len(rows) == 1, 1)
    count = len(rows[1])
    refuse_where(count > MOST_PLACES, 1)
    table = []
    for line in range(1, len(rows)):
        refuse_where(line > count or len(rows[line]) != count, line)
        table.append([amount_in(word, line) for word in rows[line]])
    refuse_where(len(table) < count, len(rows))
    return table


def read_lengths(rows):
    table = table_in(rows)
    amounts = []
    for row in table:
        amounts.extend(row)
    unit = unit_of(amounts)
    return (unit, [all_by_the_unit(row, unit) for row in table])


def read_round(rows):
    refuse_word_count(rows[0], 1, 1, 0)
    told = read_lengths(rows)
    return (told[0], (told[1],))


def read_places(rows):
    refuse_word_count(rows[0], 2, 2, 0)
    many = number_in(rows[0][1], 1, MOST_PLACES, 0)
    told = read_lengths(rows)
    refuse_where(many > len(told[1]), 0)
    return (told[0], (told[1], many))


def read_benches(rows):
    refuse_word_count(rows[0], 2, 2 + MOST_THINGS, 0)
    many = number_in(rows[0][1], 1, MOST_BENCHES, 0)
    works = [amount_above_nought(word, 0) for word in rows[0][2:]]
    refuse_where(len(rows) > 1, 1)
    unit = unit_of(works)
    return (unit, (all_by_the_unit(works, unit), many))


def read_bins(rows):
    refuse_word_count(rows[0], 2, 2 + MOST_THINGS, 0)
    amounts = [amount_above_nought(word, 0) for word in rows[0][1:]]
    refuse_where(len(rows) > 1, 1)
    unit = unit_of(amounts)
    sizes = all_by_the_unit(amounts, unit)
    room = sizes.pop(0)
    return (unit, (sizes, room))


def thing_in(words, line):
    refuse_word_count(words, 2, 2, line)
    return (amount_in(words[0], line), amount_above_nought(words[1], line))


def read_sack(rows):
    refuse_word_count(rows[0], 2, 2, 0)
    room = amount_in(rows[0][1], 0)
    amounts = [room]
    things = []
    for line in range(1, len(rows)):
        refuse_where(line > MOST_THINGS, line)
        thing = thing_in(rows[line], line)
        things.append(thing)
        amounts.extend(thing)
    unit = unit_of(amounts)
    whole = [(by_the_unit(worth, unit), by_the_unit(weight, unit)) for worth, weight in things]
    return (unit, (by_the_unit(room, unit), whole))


def read_rows(kind, rows):
    if kind == "cover":
        return read_cover(rows)
    if kind == "touch":
        return read_touch(rows)
    if kind == "round":
        return read_round(rows)
    if kind == "places":
        return read_places(rows)
    if kind == "benches":
        return read_benches(rows)
    if kind == "bins":
        return read_bins(rows)
    if kind == "sack":
        return read_sack(rows)
    raise NoText(0)


def refuse_given(kind, given):
    if kind == "cover":
        refuse_missing(given[0], given[1])
    elif kind == "round" or kind == "places":
        look_at(given[0])
    elif kind == "bins":
        refuse_too_great(given[0], given[1])


def read(text):
    rows = [line.split(" ") for line in text.split("\n")]
    kind = rows[0][0]
    told = read_rows(kind, rows)
    refuse_given(kind, told[1])
    return (kind, told[0], told[1])


def shown_amount(one):
    top = one[0]
    bottom = one[1]
    if bottom == 1:
        return str(top)
    return f"{top}/{bottom}"
