"""Sheets and marks for the tests, and slow reckonings straight from the document's words."""

import copy
import random

from meterbook.rates import month_cost
from meterbook.sheets import sheet_of

HOUSE = {
    "week": ["work", "work", "work", "work", "work", "rest", "rest"],
    "special": {3: "feast", 9: "rest"},
    "bands": [("night", "power"), ("cook", "gas"), ("noon", "power")],
    "weights": {
        ("work", "night"): 1, ("work", "cook"): 2, ("work", "noon"): 3,
        ("rest", "night"): 0, ("rest", "cook"): 5, ("rest", "noon"): 4,
        ("feast", "night"): 7, ("feast", "cook"): 1, ("feast", "noon"): 0,
    },
    "prices": {
        ("work", "night"): 10, ("work", "cook"): 20, ("work", "noon"): 30,
        ("rest", "night"): 11, ("rest", "cook"): 21, ("rest", "noon"): 31,
        ("feast", "night"): 12, ("feast", "cook"): 22, ("feast", "noon"): 32,
    },
    "steps": [(5, 2), (8, 100), (20, 1)],
    "standing": 6,
    "month": 10,
    "figures": {"power": 4, "gas": 3},
    "rises": {"power": 500, "gas": 90},
}

FIELDS = ("week", "special", "bands", "weights", "prices", "steps", "standing", "month", "figures", "rises")


def house_fields():
    return copy.deepcopy(HOUSE)


def house(**changed):
    fields = house_fields()
    fields.update(changed)
    return sheet_of(*[fields[name] for name in FIELDS])


def even(bands=1, weight=1, price=1, steps=(), standing=0, month=10):
    """A sheet of one kind of day and one counter, all slots alike."""
    names = ["abcd"[place] for place in range(bands)]
    return sheet_of(
        ["day"] * 7,
        {},
        [(name, "water") for name in names],
        {("day", name): weight for name in names},
        {("day", name): price for name in names},
        list(steps),
        standing,
        month,
        {"water": 5},
        {"water": 100},
    )


def fields_of(sheet):
    return copy.deepcopy([getattr(sheet, name) for name in FIELDS])


def some_sheet(chance):
    kinds = chance.sample(["work", "rest", "feast"], chance.randint(1, 3))
    owners = ["power"] + [chance.choice(["power", "gas", "water"]) for more in range(chance.randint(0, 3))]
    bands = [("abcd"[place], owner) for place, owner in enumerate(owners)]
    weights = {(kind, band): chance.choice([0, 1, 3, 99]) for kind in kinds for band, owner in bands}
    for kind in kinds:
        for owner in owners:
            own = [band for band, counter in bands if counter == owner]
            if all(weights[(kind, band)] == 0 for band in own):
                weights[(kind, chance.choice(own))] = chance.randint(1, 99)
    units = sorted(chance.sample(range(1, 60), chance.randint(0, 4)))
    return sheet_of(
        [chance.choice(kinds) for day in range(7)],
        {day: chance.choice(kinds) for day in chance.sample(range(60), chance.randint(0, 9))},
        bands,
        weights,
        {(kind, band): chance.randint(0, 50) for kind in kinds for band, owner in bands},
        [(unit, chance.randint(0, 30)) for unit in units],
        chance.randint(0, 20),
        chance.choice([1, 2, 7, 30, 31]),
        {owner: chance.randint(1, 9) for owner in owners},
        {owner: chance.randint(1, 99) for owner in owners},
    )


def some_marks(chance, most=6):
    days = sorted(chance.sample(range(50), chance.randint(0, most)))
    marks = []
    for day in days:
        arrived = chance.randint(0, 250)
        left = arrived if chance.random() < 0.7 else chance.randint(0, 250)
        marks.append((day, arrived, left, chance.randint(1, 2)))
    return marks


def cases(count, seed=1):
    """Sheets with marks for each of their counters, the same in every run."""
    chance = random.Random(seed)
    told = []
    for place in range(count):
        sheet = some_sheet(chance)
        owners = sorted({counter for band, counter in sheet.bands})
        told.append((sheet, {owner: some_marks(chance) for owner in owners}))
    return told


def slow_weight(sheet, counter, begin, end):
    total = 0
    for slot in range(begin, end):
        day, place = divmod(slot, len(sheet.bands))
        band, owner = sheet.bands[place]
        kind = sheet.special[day] if day in sheet.special else sheet.week[day % 7]
        total += sheet.weights[(kind, band)] if owner == counter else 0
    return total


def slow_so_far(sheet, counter, marks, slot):
    size = len(sheet.bands)
    if not marks or slot <= marks[0][0] * size:
        return 0
    total = 0
    use = whole = 0
    for former, latter in zip(marks, marks[1:]):
        begin, end = former[0] * size, latter[0] * size
        use = (latter[1] - former[2]) % 10 ** former[3]
        whole = slow_weight(sheet, counter, begin, end)
        if slot < end:
            return total + use * slow_weight(sheet, counter, begin, slot) // whole
        total += use
    if len(marks) < 2:
        return 0
    return total + use * slow_weight(sheet, counter, marks[-1][0] * size, slot) // whole


def slow_price(sheet, slot, number):
    day, place = divmod(slot, len(sheet.bands))
    kind = sheet.special.get(day, sheet.week[day % 7])
    price = sheet.prices[(kind, sheet.bands[place][0])]
    reached = [more for units, more in sheet.steps if units <= number]
    return price + (reached[-1] if reached else 0)


def slow_month(sheet, marks, month):
    """month_uses, unit by unit."""
    size = len(sheet.bands)
    number = 0
    told = []
    for slot in range(month * sheet.month * size, (month + 1) * sheet.month * size):
        counter = sheet.bands[slot % size][1]
        ahead = slow_so_far(sheet, counter, marks[counter], slot)
        use = slow_so_far(sheet, counter, marks[counter], slot + 1) - ahead
        if use:
            cost = sum(slow_price(sheet, slot, number + unit) for unit in range(use))
            told.append((slot, use, cost))
            number += use
    return told


def slow_marks(sheet, counter, log, known=None):
    """A book's marks, from the deeds that were not refused, as tuples of a log."""
    told = {}
    for deed in log:
        if deed[0] == "bill" or deed[2] != counter or (known is not None and deed[1] > known):
            continue
        if deed[0] == "wrong":
            del told[deed[3]]
        else:
            told[deed[3]] = deed
    marks = []
    for day in sorted(told):
        deed = told[day]
        if deed[0] == "change":
            marks.append((day, deed[4], deed[5], deed[6]))
        else:
            figures = marks[-1][3] if marks else sheet.figures[counter]
            marks.append((day, deed[4], deed[4], figures))
    return marks


def slow_cost(sheet, log, month, known=None):
    """A month's cost; month_cost itself is held against slow_month elsewhere, which takes too long here."""
    marks = {counter: slow_marks(sheet, counter, log, known) for band, counter in sheet.bands}
    return month_cost(sheet, marks, month)


def slow_refusal(sheet, log, deed):
    """The word of the first refusal that is due of a deed behind those of the log, or None."""
    known = deed[1]
    billed = [former[1] for former in log if former[0] == "bill"]
    if deed[0] == "bill":
        if any(known < former[1] for former in log):
            return "late"
        return "early" if known < (len(billed) + 1) * sheet.month else None
    if any(known < former[1] for former in log) or any(known <= day for day in billed):
        return "late"
    counter, day = deed[2], deed[3]
    if counter not in [owner for band, owner in sheet.bands]:
        return "counter"
    if deed[0] == "wrong":
        return None if day in [mark[0] for mark in slow_marks(sheet, counter, log)] else "mark"
    values = deed[4:6]
    if not all(0 <= value < 10 ** 9 for value in values) or not 0 <= day <= 400:
        return "value"
    if deed[0] == "change" and not 1 <= deed[6] <= 9:
        return "value"
    marks = slow_marks(sheet, counter, log + [deed])
    for former, latter in zip(marks, marks[1:]):
        if (latter[1] - former[2]) % 10 ** former[3] > sheet.rises[counter] * (latter[0] - former[0]):
            return "fast"
    return None


def some_deed(chance, sheet, known):
    """A deed that is often done, and now and then refused."""
    owners = sorted({counter for band, counter in sheet.bands})
    counter = chance.choice(owners) if chance.random() < 0.95 else "nobody"
    day = chance.randint(0, 40) if chance.random() < 0.95 else chance.choice([400, 401])
    what = chance.random()
    if what < 0.5:
        value = chance.randint(0, 400) if chance.random() < 0.95 else 10 ** 9
        return ("tell", known, counter, day, value)
    if what < 0.65:
        ended, begun = chance.randint(0, 400), chance.randint(0, 400)
        return ("change", known, counter, day, ended, begun, chance.randint(0, 5))
    if what < 0.8:
        return ("wrong", known, counter, day)
    return ("bill", known)


def some_log(chance, sheet, count=30):
    """Deeds on days that mostly rise."""
    known = 0
    log = []
    for place in range(count):
        known = max(0, known + chance.choice([-1, 0, 0, 1, 1, 2, sheet.month]))
        log.append(some_deed(chance, sheet, known))
    return log
