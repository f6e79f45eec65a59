"""A sack filled by rounded worths: the best filling of all, but for what the rounding leaves off."""

from goodenough.sacks import fitting_alone


def rounding_step(room, things, parts):
    fitting = fitting_alone(room, things)
    if len(fitting) == 0:
        return 1
    greatest = max([things[number][0] for number in fitting])
    return max(1, greatest // (len(fitting) * parts))


def with_thing(lightest, number, worth, weight):
    # Only a lesser weight displaces a filling, so the same one is told each time.
    grown = dict(lightest)
    for total, filling in lightest.items():
        heavier = filling[0] + weight
        if total + worth not in grown or heavier < grown[total + worth][0]:
            grown[total + worth] = (heavier, filling[1] + [number])
    return grown


def by_rounded(room, things, parts=4):
    step = rounding_step(room, things, parts)
    # For each sum of rounded worths that can be had, the lightest filling that has it. A step leaves few such sums.
    lightest = {0: (0, [])}
    for number in fitting_alone(room, things):
        lightest = with_thing(lightest, number, things[number][0] // step, things[number][1])
    return lightest[max([total for total in lightest if lightest[total][0] <= room])][1]
