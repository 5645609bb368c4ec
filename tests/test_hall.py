"""Deeds done from a log, and reports of whole logs."""

import copy
import random
import unittest

from meterbook.books import Book
from meterbook.errors import BadRow
from meterbook.hall import done, report
from meterbook.texts import log_text, sheet_text
from tests.samples import even, house, some_log, some_sheet

SHEET = sheet_text(even(price=2, standing=1))


class DoneTest(unittest.TestCase):
    def setUp(self):
        self.book = Book(even(price=2, standing=1))

    def test_a_reading(self):
        self.assertEqual(done(self.book, ("tell", 0, "water", 3, 5)), ("done", None))
        self.assertEqual(self.book.marks("water"), [(3, 5, 5, 5)])

    def test_a_change(self):
        self.assertEqual(done(self.book, ("change", 0, "water", 3, 5, 7, 4)), ("done", None))
        self.assertEqual(self.book.marks("water"), [(3, 5, 7, 4)])

    def test_what_was_wrong(self):
        self.book.tell(0, "water", 3, 5)
        self.assertEqual(done(self.book, ("wrong", 0, "water", 3)), ("done", None))
        self.assertEqual(self.book.marks("water"), [])

    def test_a_bill(self):
        self.assertEqual(done(self.book, ("bill", 10)), ("bill", (0, 10, 10, [], 10)))
        self.assertEqual(self.book.bills(), [(0, 10, 10, [], 10)])

    def test_days_of_knowing_go_along(self):
        done(self.book, ("tell", 4, "water", 3, 5))
        self.assertEqual(self.book.marks_known("water", 3), [])
        self.assertEqual(self.book.marks_known("water", 4), [(3, 5, 5, 5)])

    def test_late(self):
        self.book.tell(5, "water", 3, 5)
        for deed in (("tell", 4, "water", 3, 5), ("change", 4, "water", 3, 5, 5, 5), ("wrong", 4, "water", 3),
                     ("bill", 4)):
            self.assertEqual(done(self.book, deed), ("refused", "late"))

    def test_counter(self):
        for deed in (("tell", 4, "air", 3, 5), ("change", 4, "air", 3, 5, 5, 5), ("wrong", 4, "air", 3)):
            self.assertEqual(done(self.book, deed), ("refused", "counter"))

    def test_mark(self):
        self.assertEqual(done(self.book, ("wrong", 4, "water", 3)), ("refused", "mark"))
        self.assertEqual(done(self.book, ("wrong", 4, "water", 10 ** 12 - 1)), ("refused", "mark"))

    def test_value(self):
        for deed in (("tell", 4, "water", 401, 5), ("tell", 4, "water", 3, 10 ** 9),
                     ("change", 4, "water", 3, 10 ** 9, 5, 5), ("change", 4, "water", 3, 5, 10 ** 9, 5),
                     ("change", 4, "water", 3, 5, 5, 0), ("change", 4, "water", 3, 5, 5, 10)):
            self.assertEqual(done(self.book, deed), ("refused", "value"))

    def test_fast(self):
        self.book.tell(0, "water", 0, 0)
        self.assertEqual(done(self.book, ("tell", 0, "water", 1, 101)), ("refused", "fast"))
        self.assertEqual(done(self.book, ("change", 0, "water", 1, 101, 0, 5)), ("refused", "fast"))

    def test_early(self):
        self.assertEqual(done(self.book, ("bill", 9)), ("refused", "early"))

    def test_a_refused_deed_changes_nothing(self):
        self.book.tell(0, "water", 0, 0)
        for deed in (("tell", 9, "water", 1, 101), ("wrong", 9, "water", 1), ("bill", 9)):
            self.assertEqual(done(self.book, deed)[0], "refused")
        self.assertEqual((self.book.marks("water"), self.book.bills()), ([(0, 0, 0, 5)], []))
        self.assertEqual(done(self.book, ("tell", 0, "water", 1, 100)), ("done", None))

    def test_the_bills_list_is_the_askers_own(self):
        for known, value in ((0, 0), (10, 50)):
            self.book.tell(known, "water", known, value)
        done(self.book, ("bill", 10))
        self.book.tell(11, "water", 10, 60)
        what, bill = done(self.book, ("bill", 20))
        self.assertEqual(bill, (1, 20, 130, [(0, 20)], 150))
        bill[3].clear()
        self.assertEqual(self.book.bills()[1], (1, 20, 130, [(0, 20)], 150))

    def test_tuples(self):
        for deed in (("tell", 0, "water", 3, 5), ("bill", 10), ("bill", 3)):
            self.assertIs(type(done(self.book, deed)), tuple)


class ReportTest(unittest.TestCase):
    def test_no_deed(self):
        self.assertEqual(report(SHEET, ""), "")

    def test_one_deed(self):
        self.assertEqual(report(SHEET, "0 tell water 0 0"), "done")
        self.assertEqual(report(SHEET, "10 bill"), "bill 0 10 - 10")
        self.assertEqual(report(SHEET, "9 bill"), "refused early")

    def test_row_by_row(self):
        rows = (
            ("0 tell water 0 0", "done"),
            ("0 tell air 0 0", "refused counter"),
            ("0 wrong water 1", "refused mark"),
            ("0 tell water 401 0", "refused value"),
            ("0 tell water 1 101", "refused fast"),
            ("9 bill", "refused early"),
            ("10 tell water 10 50", "done"),
            ("9 bill", "refused late"),
            ("10 bill", "bill 0 110 - 110"),
            ("10 tell water 11 55", "refused late"),
            ("20 bill", "bill 1 110 - 110"),
            ("21 tell water 20 150", "done"),
            ("30 bill", "bill 2 210 1:100 310"),
            ("31 tell water 15 60", "done"),
            ("40 bill", "bill 3 370 2:160 530"),
            ("41 wrong water 20", "done"),
            ("50 bill", "bill 4 50 1:-160,2:-320,3:-320 -750"),
            ("51 change water 50 130 0 3", "done"),
            ("60 bill", "bill 5 50 - 50"),
        )
        for count in range(1, len(rows) + 1):
            log = "\n".join(row for row, told in rows[:count])
            self.assertEqual(report(SHEET, log), "\n".join(told for row, told in rows[:count]))

    def test_numbers_of_more_than_twelve_figures(self):
        sheet = even(price=10 ** 12 - 1, standing=10 ** 12 - 1, month=1)
        sheet.figures = {"water": 9}
        sheet.rises = {"water": 10 ** 9}
        most = 10 ** 9 - 1
        log = f"0 tell water 0 0\n0 tell water 1 {most}\n1 bill\n2 wrong water 1\n2 bill"
        cost = (10 ** 12 - 1) * 10 ** 9
        less = -(10 ** 12 - 1) * most
        last = 10 ** 12 - 1 + less
        told = report(sheet_text(sheet), log)
        self.assertEqual(told.split("\n")[2], f"bill 0 {cost} - {cost}")
        self.assertEqual(told.split("\n")[4], f"bill 1 999999999999 0:{less} {last}")

    def test_days_beyond_the_last(self):
        log = "999999999999 bill\n999999999999 tell water 0 0\n999999999998 bill\n999999999999 bill"
        self.assertEqual(report(SHEET, log), "bill 0 10 - 10\nrefused late\nrefused late\nbill 1 10 - 10")

    def test_sixty_bills(self):
        told = report(SHEET, "\n".join(["2000 bill"] * 60))
        self.assertEqual(told, "\n".join(f"bill {month} 10 - 10" for month in range(60)))

    def refuse(self, sheet, log, row):
        with self.assertRaises(BadRow) as caught:
            report(sheet, log)
        self.assertEqual(caught.exception.row, row)

    def test_bad_rows_of_either_text(self):
        self.refuse("", "", 1)
        self.refuse(SHEET + "\n", "10 bill", len(SHEET.split("\n")) + 1)
        self.refuse(SHEET, "10 bill\nbill", 2)
        self.refuse(SHEET, "\n", 1)

    def test_the_sheets_first(self):
        self.refuse(SHEET.replace("month 10", "month 0"), "10 bil", 5)
        self.refuse(SHEET.replace("month 10", "month 0"), "10 bill\n10 bill\n10 bil", 5)

    def test_it_is_what_the_deeds_answer(self):
        chance = random.Random(51)
        for place in range(30):
            sheet = some_sheet(chance)
            log = some_log(chance, sheet)
            book = Book(sheet)
            rows = []
            for deed in log:
                what, more = done(book, deed)
                if what == "bill":
                    puts = ",".join(f"{month}:{difference}" for month, difference in more[3]) or "-"
                    rows.append(f"bill {more[0]} {more[2]} {puts} {more[4]}")
                else:
                    rows.append(what if what == "done" else f"refused {more}")
            self.assertEqual(report(sheet_text(sheet), log_text(log)), "\n".join(rows))

    def test_asked_again_it_is_told_again(self):
        log = "0 tell power 0 0\n10 bill"
        first = report(sheet_text(house()), log)
        self.assertEqual(report(sheet_text(house()), log), first)
        self.assertEqual(copy.copy(log), "0 tell power 0 0\n10 bill")
