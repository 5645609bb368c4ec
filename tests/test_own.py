"""What is handed in stays as it was, and what is told is the asker's own, over the whole program."""

import copy
import unittest

from meterbook.books import Book
from meterbook.hall import done, report
from meterbook.meters import slot_use, so_far, uses
from meterbook.rates import month_cost, month_uses, unit_price
from meterbook.sharing import plan, shared
from meterbook.sheets import counters, kind_of, weight
from meterbook.texts import log_from, log_text, sheet_from, sheet_text
from tests.samples import FIELDS, fields_of, house

LOG = [
    ("tell", 0, "power", 0, 0),
    ("tell", 0, "gas", 0, 10),
    ("tell", 8, "power", 8, 80),
    ("tell", 9, "gas", 9, 100),
    ("bill", 10),
    ("change", 11, "power", 6, 90, 3, 3),
    ("tell", 12, "power", 8, 40),
    ("bill", 20),
    ("wrong", 21, "gas", 9),
    ("bill", 30),
]


def filled(sheet):
    book = Book(sheet)
    for deed in LOG:
        done(book, deed)
    return book


def answers(book):
    """All that a book tells."""
    return [
        book.marks("power"), book.marks("gas"),
        [book.marks_known(counter, known) for known in (0, 8, 10, 30) for counter in ("power", "gas")],
        [book.state_known(known) for known in (0, 8, 10, 30)],
        [book.cost_known(month, known) for month in range(4) for known in (0, 10, 20, 30)],
        book.bills(),
    ]


def kept_within(value):
    """All lists and dicts within a value, itself too."""
    if isinstance(value, dict):
        return [value] + [found for part in value.values() for found in kept_within(part)]
    if isinstance(value, (list, tuple)):
        own = [value] if isinstance(value, list) else []
        return own + [found for part in value for found in kept_within(part)]
    return []


def spoil(value):
    """Changes all lists and dicts within a value."""
    for found in kept_within(value):
        if isinstance(found, list):
            found.append(("spoilt", 1))
            found.reverse()
        else:
            found["spoilt"] = 1


class OwnTest(unittest.TestCase):
    def apart(self, values):
        """No two of all lists and dicts that were told are one and the same."""
        found = [kept for value in values for kept in kept_within(value)]
        self.assertEqual(len({id(kept) for kept in found}), len(found))

    def test_a_book_changes_no_sheet(self):
        sheet = house()
        kept = fields_of(sheet)
        answers(filled(sheet))
        self.assertEqual(fields_of(sheet), kept)

    def test_a_sheet_changed_afterwards_changes_no_book(self):
        sheet = house()
        book = filled(sheet)
        before = copy.deepcopy(answers(book))
        for name in FIELDS:
            value = getattr(sheet, name)
            if isinstance(value, (list, dict)):
                value.clear()
            else:
                setattr(sheet, name, 1)
        self.assertEqual(answers(book), before)
        self.assertEqual(done(book, ("tell", 40, "gas", 9, 100)), ("done", None))
        self.assertEqual(done(book, ("bill", 40))[0], "bill")

    def test_values_within_a_sheet_changed_afterwards_change_no_book(self):
        sheet = house()
        book = filled(sheet)
        before = copy.deepcopy(answers(book))
        sheet.week[0] = "feast"
        sheet.special[4] = "feast"
        sheet.bands[0] = ("night", "gas")
        for key in sheet.prices:
            sheet.prices[key] = sheet.weights[key] = 9
        sheet.steps[0] = (1, 1)
        sheet.figures["power"] = sheet.rises["power"] = 1
        self.assertEqual(answers(book), before)

    def test_two_books_of_one_sheet(self):
        sheet = house()
        one = filled(sheet)
        before = copy.deepcopy(answers(one))
        other = Book(sheet)
        other.tell(0, "power", 3, 77)
        other.bill(50)
        self.assertEqual(answers(one), before)

    def test_what_a_book_told_may_be_changed(self):
        book = filled(house())
        before = copy.deepcopy(answers(book))
        for told in answers(book):
            spoil(told)
            self.assertEqual(answers(book), before)

    def test_a_drawn_bill_may_be_changed(self):
        book = Book(house())
        told = []
        for deed in LOG:
            what, bill = done(book, deed)
            if what == "bill":
                told.append(bill)
                kept = copy.deepcopy(book.bills())
                spoil(bill)
                self.assertEqual(book.bills(), kept)
        self.assertEqual(answers(book), answers(filled(house())))
        self.assertTrue(len(told) == 3 and book.bills()[2][3])

    def test_a_later_deed_changes_nothing_told(self):
        book = filled(house())
        told = answers(book)
        before = copy.deepcopy(told)
        book.tell(31, "power", 7, 30)
        book.wrong(31, "power", 8)
        book.bill(40)
        self.assertEqual(told, before)

    def test_no_two_lists_of_a_book_are_one_and_the_same(self):
        book = Book(house())
        told = []
        for deed in LOG:
            told.append(done(book, deed))
            told.extend([answers(book), answers(book)])
        self.apart(told)
        self.apart([answers(Book(house())), answers(Book(house()))])

    def test_a_log_stays(self):
        log = copy.deepcopy(LOG)
        book = Book(house())
        for deed in log:
            done(book, deed)
        log_text(log)
        self.assertEqual(log, LOG)

    def test_a_state_told_may_be_handed_in_again(self):
        sheet = house()
        book = filled(sheet)
        state = book.state_known(30)
        kept = copy.deepcopy(state)
        for month in range(4):
            self.assertEqual(month_cost(sheet, state, month), book.cost_known(month, 30))
            month_uses(sheet, state, month)
        for counter in state:
            uses(state[counter])
            so_far(sheet, counter, state[counter], 40)
            slot_use(sheet, counter, state[counter], 40)
        self.assertEqual(state, kept)

    def test_totals_told_may_be_handed_in_again(self):
        book = filled(house())
        totals = [bill[4] for bill in book.bills()]
        kept = list(totals)
        rows = plan(totals, 300)
        shares = shared(rows[0][0], [row[1] for row in rows])
        self.assertEqual((totals, shares), (kept, [sum(kept)]))
        self.apart([rows, plan(totals, 300), shares, shared(5, [1]), plan([], 1), plan([], 1)])

    def test_sheets_and_logs_read_from_texts(self):
        text = sheet_text(house())
        one = sheet_from(text)
        other = sheet_from(text)
        self.apart([[getattr(sheet, name) for name in FIELDS] for sheet in (one, other)])
        logs = [log_from(log_text(LOG)), log_from(log_text(LOG)), log_from(""), log_from("")]
        self.apart(logs)
        spoil(logs[0])
        self.assertEqual((logs[1], log_from(log_text(LOG))), (LOG, LOG))
        spoil(logs[2])
        self.assertEqual((logs[3], log_from("")), ([], []))

    def test_writing_changes_no_sheet(self):
        sheet = house(special={9: "rest", 3: "feast"})
        kept = fields_of(sheet)
        sheet_text(sheet)
        self.assertEqual(fields_of(sheet), kept)
        self.assertEqual(list(sheet.special), [9, 3])

    def test_reports_keep_nothing(self):
        text = sheet_text(house())
        first = report(text, log_text(LOG))
        report(text, "0 tell power 0 5")
        self.assertEqual(report(text, log_text(LOG)), first)

    def test_the_other_answers(self):
        sheet = house()
        kept = fields_of(sheet)
        marks = {"power": [(0, 0, 0, 4), (9, 90, 90, 4)], "gas": []}
        before = copy.deepcopy(marks)

        def told():
            return [
                counters(sheet), kind_of(sheet, 3), weight(sheet, "gas", 0, 9), uses(marks["power"]), uses([]),
                month_uses(sheet, marks, 0), month_uses(sheet, marks, 1), unit_price(sheet, 3, 9),
                shared(7, [1, 2]), plan([1, 2], 3),
            ]

        first = told()
        again = copy.deepcopy(first)
        self.apart([first, told()])
        for value in first:
            spoil(value)
        self.assertEqual(told(), again)
        self.assertEqual((marks, fields_of(sheet)), (before, kept))
