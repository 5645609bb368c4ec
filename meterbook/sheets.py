"""Sheets: the kinds of days, their bands, and the slots of a day."""

LAST_DAY = 400
MOST_FIGURES = 9


class Sheet:
    """What holds of a house: its days, bands, weights, prices and meters."""

    def __init__(self, week, special, bands, weights, prices, steps, standing, month, figures, rises):
        self.week = list(week)
        self.special = dict(special)
        self.bands = list(bands)
        self.weights = dict(weights)
        self.prices = dict(prices)
        self.steps = list(steps)
        self.standing = standing
        self.month = month
        self.figures = dict(figures)
        self.rises = dict(rises)


def sheet_of(week, special, bands, weights, prices, steps, standing, month, figures, rises):
    """A sheet with lists and dicts of its own."""
    return Sheet(week, special, bands, weights, prices, steps, standing, month, figures, rises)


def sheet_like(sheet):
    """A sheet with the same fields, in lists and dicts of its own."""
    return sheet_of(
        sheet.week,
        sheet.special,
        sheet.bands,
        sheet.weights,
        sheet.prices,
        sheet.steps,
        sheet.standing,
        sheet.month,
        sheet.figures,
        sheet.rises,
    )


def kind_of(sheet, day):
    """The kind of a day: a special one, else its week day's."""
    if day in sheet.special:
        return sheet.special[day]
    return sheet.week[day % 7]


def counters(sheet):
    """The counters, each once, in the order of their first bands."""
    return band_counters(sheet.bands)


def band_counters(bands):
    """The counters that bands name, each once, in the order of their first bands."""
    found = []
    for band, counter in bands:
        if counter not in found:
            found.append(counter)
    return found


def slot_counter(sheet, slot):
    """The counter whose band the slot is."""
    return sheet.bands[slot % len(sheet.bands)][1]


def slot_key(sheet, slot):
    """The day's kind and the band of a slot, as weights and prices are kept."""
    size = len(sheet.bands)
    return (kind_of(sheet, slot // size), sheet.bands[slot % size][0])


def slot_weight(sheet, counter, slot):
    """The weight of one slot for a counter, 0 in another counter's band."""
    if slot_counter(sheet, slot) != counter:
        return 0
    return sheet.weights[slot_key(sheet, slot)]


def weight(sheet, counter, begin, end):
    """The weights of the slots from begin to end - 1 together."""
    return sum([slot_weight(sheet, counter, slot) for slot in range(begin, end)])
