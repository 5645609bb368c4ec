"""Rates: what the units of a month cost."""

from meterbook.meters import so_fars
from meterbook.sheets import counters, slot_counter, slot_key


def unit_price(sheet, slot, number):
    """What the month's unit of that number costs in a slot."""
    return sheet.prices[slot_key(sheet, slot)] + step_more(sheet, number)


def step_more(sheet, number):
    """What a unit costs more by the last step that its number reaches."""
    reached = 0
    for units, more in sheet.steps:
        if number >= units:
            reached = more
    return reached


def more_ahead(sheet, number):
    """What the steps add to all units ahead of a number, without a walk unit by unit."""
    added = 0
    rest = number
    for units, more in reversed(sheet.steps):
        if rest > units:
            added = added + (rest - units) * more
            rest = units
    return added


def units_cost(sheet, slot, number, use):
    """What so many units of a slot cost, numbered from number on."""
    plain = use * sheet.prices[slot_key(sheet, slot)]
    return plain + more_ahead(sheet, number + use) - more_ahead(sheet, number)


def slot_uses(sheet, marks, begin, end):
    """The use of each slot from begin to end - 1, the one of its own counter."""
    ahead = {}
    for counter in counters(sheet):
        ahead[counter] = so_fars(sheet, counter, marks[counter], begin, end + 1)
    found = []
    for slot in range(begin, end):
        own = ahead[slot_counter(sheet, slot)]
        found.append(own[slot + 1 - begin] - own[slot - begin])
    return found


def priced(sheet, begin, found):
    """A tuple (slot, use, cost) for each use above 0 of a month's slots, which begin at begin."""
    number = 0
    told = []
    for place, use in enumerate(found):
        if use > 0:
            slot = begin + place
            told.append((slot, use, units_cost(sheet, slot, number, use)))
            number = number + use
    return told


def month_size(sheet):
    """How many slots a month has."""
    return sheet.month * len(sheet.bands)


def month_uses(sheet, marks, month):
    """A tuple (slot, use, cost) for each slot of the month with a use, in order."""
    size = month_size(sheet)
    begin = month * size
    return priced(sheet, begin, slot_uses(sheet, marks, begin, begin + size))


def with_standing(sheet, told):
    """What a month costs whose uses are priced as told."""
    return sum([cost for slot, use, cost in told]) + sheet.standing * sheet.month


def month_cost(sheet, marks, month):
    """What all units of the month cost, and standing for each of its days."""
    return with_standing(sheet, month_uses(sheet, marks, month))


def month_costs(sheet, marks, end):
    """The costs of the months from 0 to end - 1."""
    size = month_size(sheet)
    # One walk for all months, else each would weigh all days ahead of it again.
    found = slot_uses(sheet, marks, 0, end * size)
    costs = []
    for month in range(end):
        begin = month * size
        costs.append(with_standing(sheet, priced(sheet, begin, found[begin:begin + size])))
    return costs
