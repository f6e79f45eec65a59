"""Works put to benches, in order and longest first, and the bound that no putting goes below."""

from goodenough.shares import rounded_up, share


def greatest_order(sizes):
    # Sorting leaves like ones in the list's order.
    return sorted(range(len(sizes)), key=lambda number: -sizes[number])


def freest(sums):
    return sums.index(min(sums))


def put_by(works, many, order):
    sums = [0 for bench in range(many)]
    put = [0 for work in works]
    for number in order:
        bench = freest(sums)
        sums[bench] += works[number]
        put[number] = bench
    return put


def put_in_order(works, many):
    return put_by(works, many, list(range(len(works))))


def put_longest_first(works, many):
    return put_by(works, many, greatest_order(works))


def heaviest(works, many, put):
    sums = [0 for bench in range(many)]
    for work, bench in zip(works, put):
        sums[bench] += work
    return max(sums)


def bench_bound(works, many):
    if len(works) == 0:
        return 0
    falling = sorted(works, reverse=True)
    bounds = [rounded_up(share(sum(works), many)), falling[0]]
    # Of the many + 1 longest works two have to share a bench.
    if len(works) > many:
        bounds.append(falling[many - 1] + falling[many])
    return max(bounds)
