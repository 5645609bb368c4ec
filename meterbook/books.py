"""The book: what is told of the counters, when it became known, and the bills drawn from it."""

from meterbook.errors import BadValue, NoCounter, NoMark, TooEarly, TooFast, TooLate
from meterbook.meters import uses
from meterbook.rates import month_cost, month_costs
from meterbook.sheets import LAST_DAY, MOST_FIGURES, counters, sheet_like

MOST_SHOWN = 999999999


class Book:
    """Keeps each deed with the day on which it became known, and the bills as they were drawn.

    A deed is kept as a tuple (known, counter, day, shown): shown is None where nothing
    holds of that day any more, else (arrived, left, figures) with no figures for a reading.
    """

    def __init__(self, sheet):
        self.sheet = sheet_like(sheet)
        self.deeds = []
        self.drawn = []
        self.billed = []

    def tell(self, known, counter, day, value):
        """A reading for the beginning of a day."""
        self.keep(known, counter, day, (value, value, None))

    def change(self, known, counter, day, ended, begun, figures):
        """The meter that showed ended was exchanged for one that shows begun."""
        self.keep(known, counter, day, (ended, begun, figures))

    def wrong(self, known, counter, day):
        """What was told for a day is nothing."""
        refuse_late(self.deeds, self.drawn, known)
        self.refuse_counter(counter)
        if day not in shown_by_day(self.deeds, counter):
            raise NoMark("nothing is known for that day")
        self.deeds.append((known, counter, day, None))

    def keep(self, known, counter, day, shown):
        """Keeps a reading or a change, where nothing refuses it."""
        refuse_late(self.deeds, self.drawn, known)
        self.refuse_counter(counter)
        refuse_value(day, shown)
        kept = self.deeds + [(known, counter, day, shown)]
        refuse_fast(marks_by(self.sheet, kept, counter), self.sheet.rises[counter])
        self.deeds = kept

    def refuse_counter(self, counter):
        """Refuses a counter that the sheet does not have."""
        if counter not in counters(self.sheet):
            raise NoCounter("the sheet has no such counter")

    def marks(self, counter):
        """The marks of a counter by all deeds."""
        self.refuse_counter(counter)
        return marks_by(self.sheet, self.deeds, counter)

    def marks_known(self, counter, known):
        """The marks of a counter by the deeds known on a day."""
        self.refuse_counter(counter)
        return marks_by(self.sheet, deeds_by(self.deeds, known), counter)

    def state_known(self, known):
        """A dict from each counter to its marks known on a day."""
        state = {}
        for counter in counters(self.sheet):
            state[counter] = self.marks_known(counter, known)
        return state

    def bill(self, known):
        """Draws the next month's bill, which puts earlier months right too."""
        month = len(self.drawn)
        refuse_bill(self.deeds, self.drawn, known, (month + 1) * self.sheet.month)
        costs = month_costs(self.sheet, self.state_known(known), month + 1)
        puts = differences(self.billed, costs)
        total = costs[month] + sum([difference for earlier, difference in puts])
        self.billed = costs
        self.drawn.append((month, known, costs[month], puts, total))
        return bill_like(self.drawn[month])

    def bills(self):
        """All bills drawn, as they were."""
        return [bill_like(drawn) for drawn in self.drawn]

    def cost_known(self, month, known):
        """A month's cost by what is known on a day."""
        return month_cost(self.sheet, self.state_known(known), month)


def refuse_late(deeds, drawn, known):
    """Refuses a deed known ahead of another one, or not behind the last bill."""
    if len(deeds) > 0 and known < deeds[-1][0]:
        raise TooLate("a later deed is known already")
    if len(drawn) > 0 and known <= drawn[-1][1]:
        raise TooLate("that day's bill is drawn already")


def refuse_bill(deeds, drawn, known, first):
    """Refuses a bill ahead of a deed or bill, or ahead of the first day it may be drawn."""
    if len(deeds) > 0 and known < deeds[-1][0]:
        raise TooLate("a later deed is known already")
    if len(drawn) > 0 and known < drawn[-1][1]:
        raise TooLate("a later bill is drawn already")
    if known < first:
        raise TooEarly("the month is not over yet")


def refuse_value(day, shown):
    """Refuses what no meter shows, and days that no book has."""
    if day < 0 or day > LAST_DAY:
        raise BadValue("no such day")
    for value in shown[:2]:
        if value < 0 or value > MOST_SHOWN:
            raise BadValue("no meter shows that")
    figures = shown[2]
    if figures is not None and (figures < 1 or figures > MOST_FIGURES):
        raise BadValue("no meter has so many figures")


def refuse_fast(marks, rise):
    """Refuses marks with a use that is more than the counter can rise in its days."""
    for begin, end, use in uses(marks):
        if use > rise * (end - begin):
            raise TooFast("no counter rises so fast")


def deeds_by(deeds, known):
    """The deeds that are known on a day."""
    return [deed for deed in deeds if deed[0] <= known]


def shown_by_day(deeds, counter):
    """A dict from each day for which something is known of a counter to what was shown."""
    found = {}
    for known, owner, day, shown in deeds:
        if owner == counter:
            found[day] = shown
    return dict([(day, shown) for day, shown in found.items() if shown is not None])


def marks_by(sheet, deeds, counter):
    """The marks of a counter by these deeds; a reading's figures are those of the mark ahead of it."""
    found = shown_by_day(deeds, counter)
    figures = sheet.figures[counter]
    marks = []
    for day in sorted(found):
        shown = found[day]
        if shown[2] is not None:
            figures = shown[2]
        marks.append((day, shown[0], shown[1], figures))
    return marks


def differences(former, costs):
    """A tuple (month, difference) for each month that costs other than formerly."""
    return [
        (month, costs[month] - cost)
        for month, cost in enumerate(former)
        if costs[month] != cost
    ]


def bill_like(drawn):
    """A bill as it was drawn, with a list of its own."""
    return (drawn[0], drawn[1], drawn[2], list(drawn[3]), drawn[4])
