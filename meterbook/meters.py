"""Marks of a counter, the uses between them, and how they are spread over slots."""

from meterbook.sheets import slot_weight


def numbers_shown(figures):
    """How many numbers a meter of so many figures shows before it goes round."""
    shown = 1
    for place in range(figures):
        shown = shown * 10
    return shown


def risen(figures, before, after):
    """The least rise that leads a meter of so many figures from before to after."""
    return (after - before) % numbers_shown(figures)


def uses(marks):
    """A tuple (begin, end, use) for each two neighbouring marks."""
    return [
        (former[0], latter[0], risen(former[3], former[2], latter[1]))
        for former, latter in zip(marks, marks[1:])
    ]


def so_far(sheet, counter, marks, slot):
    """All that was used ahead of a slot, from the first mark on."""
    return so_fars(sheet, counter, marks, slot, slot + 1)[0]


def slot_use(sheet, counter, marks, slot):
    """What was used in a slot."""
    ahead = so_fars(sheet, counter, marks, slot, slot + 2)
    return ahead[1] - ahead[0]


def so_fars(sheet, counter, marks, begin, end):
    """What so_far tells of each slot from begin to end - 1."""
    size = len(sheet.bands)
    stretches = [(first * size, last * size, use) for first, last, use in uses(marks)]
    if len(stretches) == 0:
        return [0 for slot in range(begin, end)]
    # All slots share one list of weights, else each would weigh its whole stretch again.
    ahead = weights_ahead(sheet, counter, max(end, stretches[-1][1]))
    return [used_ahead(stretches, ahead, slot) for slot in range(begin, end)]


def weights_ahead(sheet, counter, end):
    """For each slot from 0 to end the weight of all slots ahead of it."""
    ahead = [0]
    for slot in range(end):
        ahead.append(ahead[slot] + slot_weight(sheet, counter, slot))
    return ahead


def used_ahead(stretches, ahead, slot):
    """The uses of the stretches that are over by a slot, and its part of the one it lies in."""
    used = 0
    for first, last, use in stretches:
        if slot >= last:
            used = used + use
        elif slot > first:
            used = used + part_of(use, ahead[slot] - ahead[first], ahead[last] - ahead[first])
    return used + guessed(stretches[-1], ahead, slot)


def guessed(stretch, ahead, slot):
    """What is used behind the last mark, as the last stretch went on."""
    last = stretch[1]
    if slot <= last:
        return 0
    return part_of(stretch[2], ahead[slot] - ahead[last], ahead[last] - ahead[stretch[0]])


def part_of(use, part, whole):
    """The part of a use that falls to a part of its weight."""
    if whole == 0:
        # Only a counter that no band names has no weight; its uses stay whole.
        return 0
    return use * part // whole
