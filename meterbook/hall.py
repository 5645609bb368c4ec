"""The hall where logs are done, deed by deed, and told of."""

from meterbook.books import Book
from meterbook.errors import BadValue, NoCounter, NoMark, TooEarly, TooFast, TooLate
from meterbook.texts import log_from, sheet_from


def done(book, deed):
    """Does a deed of a log: a tuple of what came of it and the bill, or the word of the refusal."""
    try:
        return answer(book, deed)
    except TooLate:
        return ("refused", "late")
    except NoCounter:
        return ("refused", "counter")
    except NoMark:
        return ("refused", "mark")
    except BadValue:
        return ("refused", "value")
    except TooFast:
        return ("refused", "fast")
    except TooEarly:
        return ("refused", "early")


def answer(book, deed):
    """Does a deed that nothing refuses."""
    if deed[0] == "bill":
        return ("bill", book.bill(deed[1]))
    if deed[0] == "tell":
        book.tell(deed[1], deed[2], deed[3], deed[4])
    elif deed[0] == "change":
        book.change(deed[1], deed[2], deed[3], deed[4], deed[5], deed[6])
    else:
        book.wrong(deed[1], deed[2], deed[3])
    return ("done", None)


def report(sheet_told, log_told):
    """What came of each deed of a log's text, with a sheet's text, row by row."""
    book = Book(sheet_from(sheet_told))
    rows = []
    for deed in log_from(log_told):
        rows.append(answer_row(done(book, deed)))
    return "\n".join(rows)


def answer_row(told):
    """The row of what came of a deed."""
    what = told[0]
    if what == "bill":
        return bill_row(told[1])
    if what == "refused":
        word = told[1]
        return f"refused {word}"
    return what


def bill_row(bill):
    """The row of a bill: its month, cost, what it puts right, and total."""
    words = ["bill", str(bill[0]), str(bill[2]), puts_word(bill[3]), str(bill[4])]
    return " ".join(words)


def puts_word(puts):
    """What a bill puts right, in one word."""
    if len(puts) == 0:
        return "-"
    return ",".join([f"{month}:{difference}" for month, difference in puts])
