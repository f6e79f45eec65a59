"""Whether roads hang all places together."""


def hang_together(count, roads):
    # Each place bears a mark; a road gives the places on its one side the mark of those on its other.
    marks = list(range(count))
    for a, b in roads:
        gone = marks[a]
        kept = marks[b]
        marks = [kept if mark == gone else mark for mark in marks]
    return len(set(marks)) == 1
