"""Rates: what the units of a month cost."""

from meterbook.meters import so_fars
from meterbook.sheets import counters, slot_counter, slot_key


def unit_price(sheet, slot, number):
    """What the month's unit of that number costs in a slot."""
    return sheet.prices[slot_key(sheet, slot)] + step_more(sheet, number)


def step_more(sheet, number):
    """What a unit costs more by the last step that its number reaches."""
    reached = 0
    for units, more in sheet.steps:
        if number >= units:
            reached = more
    return reached


def more_ahead(sheet, number):
    """What the steps add to all units ahead of a number, without a walk unit by unit."""
    added = 0
    rest = number
    for units, more in reversed(sheet.steps):
        if rest > units:
            added = added + (rest - units) * more
            rest = units
    return added


def units_cost(sheet, slot, number, use):
    """What so many units of a slot cost, numbered from number on."""
    plain = use * sheet.prices[slot_key(sheet, slot)]
    return plain + more_ahead(sheet, number + use) - more_ahead(sheet, number)


def slot_uses(sheet, marks, begin, end):
    """The use of each slot from begin to end - 1, the one of its own counter."""
    ahead = {}
    for counter in counters(sheet):
        ahead[counter] = so_fars(sheet, counter, marks[counter], begin, end + 1)
    found = []
    for slot in range(begin, end):
        own = ahead[slot_counter(sheet, slot)]
        found.append(own[slot + 1 - begin] - own[slot - begin])
    return found


def month_uses(sheet, marks, month):
    """A tuple (slot, use, cost) for each slot of the month with a use, in order."""
    size = sheet.month * len(sheet.bands)
    begin = month * size
    number = 0
    found = []
    for place, use in enumerate(slot_uses(sheet, marks, begin, begin + size)):
        if use > 0:
            slot = begin + place
            found.append((slot, use, units_cost(sheet, slot, number, use)))
            number = number + use
    return found


def month_cost(sheet, marks, month):
    """What all units of the month cost, and standing for each of its days."""
    costs = [cost for slot, use, cost in month_uses(sheet, marks, month)]
    return sum(costs) + sheet.standing * sheet.month
