"""Points that touch all lines, and what the lines pay for them."""


def paying(prices, lines):
    # What is paid and what is left come of one walk along the lines, so both are told together.
    left = list(prices)
    paid = []
    for a, b in lines:
        pay = min(left[a], left[b])
        left[a] -= pay
        left[b] -= pay
        paid.append(pay)
    return (paid, left)


def line_prices(prices, lines):
    return paying(prices, lines)[0]


def touching(prices, lines):
    left = paying(prices, lines)[1]
    ends = {}
    for a, b in lines:
        ends[a] = True
        ends[b] = True
    return [point for point in range(len(prices)) if point in ends and left[point] == 0]


def as_sets(prices, lines):
    things = [[] for price in prices]
    for number, line in enumerate(lines):
        for point in line:
            things[point].append(number)
    return [(price, things[point]) for point, price in enumerate(prices)]
