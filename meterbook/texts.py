"""Sheets and logs written as texts, and read back."""

from meterbook.errors import BadRow
from meterbook.sheets import LAST_DAY, MOST_FIGURES, band_counters, counters, sheet_of

LETTERS = "abcdefghijklmnopqrstuvwxyz"
LONGEST_NAME = 8
DIGITS = "0123456789"
LONGEST_NUMBER = 12

MOST_BANDS = 4
MOST_STEPS = 4
MOST_WEIGHT = 99
MOST_ROWS = 60
LONGEST_MONTH = 31

# NAME and NUMBER stand for any name and number, other words for themselves; names have small letters
# alone, so that one within a form is never taken for NAME or NUMBER.
WEEK_FORM = "week NAME NAME NAME NAME NAME NAME NAME"
DEED_FORMS = (
    "NUMBER tell NAME NUMBER NUMBER",
    "NUMBER change NAME NUMBER NUMBER NUMBER NUMBER",
    "NUMBER wrong NAME NUMBER",
    "NUMBER bill",
)


class Rows:
    """The rows of a text, taken one behind the other."""

    def __init__(self, text):
        self.rows = text.split("\n")
        self.taken = 0

    def begins(self, word):
        """Whether there is a next row and it begins with a word."""
        return self.taken < len(self.rows) and self.rows[self.taken].split(" ")[0] == word

    def take(self, form):
        """The names and numbers of the next row, which is to have that form."""
        self.taken = self.taken + 1
        if self.taken > len(self.rows):
            raise BadRow(self.taken)
        found = values_of(self.rows[self.taken - 1], form)
        self.hold(found is not None)
        return found

    def hold(self, holds):
        """Refuses the row taken last where something does not hold."""
        if not holds:
            raise BadRow(self.taken)

    def finish(self):
        """Refuses a row behind the last one."""
        if self.taken < len(self.rows):
            raise BadRow(self.taken + 1)


def values_of(row, form):
    """The names and numbers that a row tells in a form, None where it is not so written."""
    words = row.split(" ")
    parts = form.split(" ")
    if len(words) != len(parts):
        return None
    found = []
    for word, part in zip(words, parts):
        if not fits(word, part):
            return None
        if part == "NUMBER":
            found.append(int(word))
        elif part == "NAME":
            found.append(word)
    return found


def fits(word, part):
    """Whether a word is what a form's part stands for."""
    if part == "NUMBER":
        return is_number(word)
    if part == "NAME":
        return is_name(word)
    return word == part


def is_name(word):
    """Whether a word is one to eight letters."""
    return len(word) > 0 and len(word) <= LONGEST_NAME and made_of(word, LETTERS)


def is_number(word):
    """Whether a word is one to twelve figures, the first one no 0 but in 0 itself."""
    if len(word) == 0 or len(word) > LONGEST_NUMBER:
        return False
    return made_of(word, DIGITS) and (word == "0" or word[0] != "0")


def made_of(word, signs):
    """Whether each sign of a word is one of some signs."""
    return all([sign in signs for sign in word])


def row_of(words):
    """A row with these words and numbers."""
    return " ".join([str(word) for word in words])


def kinds_of(week, special):
    """The kinds of days, each once: those of the week first, then those of special days as they rise."""
    found = []
    for kind in week + [special[day] for day in sorted(special)]:
        if kind not in found:
            found.append(kind)
    return found


def sheet_text(sheet):
    """A sheet's text."""
    rows = [row_of(["week"] + sheet.week)]
    rows.extend([row_of(["special", day, sheet.special[day]]) for day in sorted(sheet.special)])
    rows.extend([row_of(["band", band, counter]) for band, counter in sheet.bands])
    rows.extend(rate_rows(sheet))
    rows.extend([row_of(["step", units, more]) for units, more in sheet.steps])
    rows.append(row_of(["standing", sheet.standing]))
    rows.append(row_of(["month", sheet.month]))
    for counter in counters(sheet):
        rows.append(row_of(["counter", counter, sheet.figures[counter], sheet.rises[counter]]))
    return "\n".join(rows)


def rate_rows(sheet):
    """The rows of the rates, for each kind and band."""
    rows = []
    for kind in kinds_of(sheet.week, sheet.special):
        for band, counter in sheet.bands:
            key = (kind, band)
            rows.append(row_of(["rate", kind, band, sheet.weights[key], sheet.prices[key]]))
    return rows


def sheet_from(text):
    """The sheet of a text, refused with the number of the first row that can not stand there."""
    rows = Rows(text)
    week = rows.take(WEEK_FORM)
    special = take_special(rows)
    bands = take_bands(rows)
    weights = {}
    prices = {}
    for kind in kinds_of(week, special):
        for band, rate in take_rates(rows, kind, bands):
            weights[(kind, band)] = rate[0]
            prices[(kind, band)] = rate[1]
    steps = take_steps(rows)
    standing = rows.take("standing NUMBER")[0]
    month = rows.take("month NUMBER")[0]
    rows.hold(month >= 1 and month <= LONGEST_MONTH)
    figures = {}
    rises = {}
    for counter in band_counters(bands):
        meter = take_counter(rows, counter)
        figures[counter] = meter[0]
        rises[counter] = meter[1]
    rows.finish()
    return sheet_of(week, special, bands, weights, prices, steps, standing, month, figures, rises)


def take_special(rows):
    """The special days, which rise."""
    special = {}
    least = 0
    while rows.begins("special"):
        found = rows.take("special NUMBER NAME")
        rows.hold(found[0] >= least and found[0] <= LAST_DAY)
        special[found[0]] = found[1]
        least = found[0] + 1
    return special


def take_bands(rows):
    """The bands with their counters, one at least, no band twice."""
    bands = []
    while len(bands) == 0 or (len(bands) < MOST_BANDS and rows.begins("band")):
        found = rows.take("band NAME NAME")
        rows.hold(found[0] not in [band for band, counter in bands])
        bands.append((found[0], found[1]))
    return bands


def take_rates(rows, kind, bands):
    """A tuple (band, [weight, price]) for each band; each counter has a weight above 0 in the kind."""
    rates = []
    weighed = {}
    for band, counter in bands:
        found = rows.take(f"rate {kind} {band} NUMBER NUMBER")
        rows.hold(found[0] <= MOST_WEIGHT)
        rates.append((band, found))
        weighed[counter] = weighed.get(counter, 0) + found[0]
    rows.hold(all([weighed[counter] > 0 for counter in weighed]))
    return rates


def take_steps(rows):
    """The steps, at most four, whose units rise from 1 on."""
    steps = []
    least = 1
    while len(steps) < MOST_STEPS and rows.begins("step"):
        found = rows.take("step NUMBER NUMBER")
        rows.hold(found[0] >= least)
        steps.append((found[0], found[1]))
        least = found[0] + 1
    return steps


def take_counter(rows, counter):
    """A counter's figures and rise."""
    found = rows.take(f"counter {counter} NUMBER NUMBER")
    rows.hold(found[0] >= 1 and found[0] <= MOST_FIGURES and found[1] >= 1)
    return found


def log_text(log):
    """A log's text: a row for each deed."""
    return "\n".join([row_of([deed[1], deed[0]] + list(deed[2:])) for deed in log])


def log_from(text):
    """The deeds of a log's text, refused with the number of the first row that is not so written."""
    if text == "":
        return []
    log = []
    for place, row in enumerate(text.split("\n"), start=1):
        deed = deed_of(row)
        if deed is None or place > MOST_ROWS:
            raise BadRow(place)
        log.append(deed)
    return log


def deed_of(row):
    """The deed that a row tells, None where it tells none."""
    for form in DEED_FORMS:
        found = values_of(row, form)
        if found is not None:
            return tuple([form.split(" ")[1]] + found)
    return None
