"""Bills: what is owed month by month, and earlier months put right."""

import random
import unittest

from meterbook.books import Book
from meterbook.errors import TooEarly, TooLate
from meterbook.hall import done
from meterbook.rates import month_cost
from tests.samples import even, house, slow_cost, some_log, some_sheet


def water():
    """A book with 5 units a day, each at 2 coins, and 1 coin a day; months of ten days."""
    book = Book(even(price=2, standing=1))
    book.tell(0, "water", 0, 0)
    book.tell(10, "water", 10, 50)
    return book


def put_right():
    """Three bills, the third of which puts the second one right."""
    book = water()
    book.bill(10)
    book.bill(20)
    book.tell(21, "water", 20, 150)
    book.bill(30)
    return book


def totals(book):
    return sum(bill[4] for bill in book.bills())


def costs(book, known):
    return sum(book.cost_known(bill[0], known) for bill in book.bills())


class BillTest(unittest.TestCase):
    def test_of_nothing(self):
        self.assertEqual(Book(even()).bill(10), (0, 10, 0, [], 0))
        self.assertEqual(Book(even(standing=7)).bill(10), (0, 10, 70, [], 70))

    def test_month_by_month(self):
        book = water()
        self.assertEqual(book.bill(10), (0, 10, 110, [], 110))
        self.assertEqual(book.bill(20), (1, 20, 110, [], 110))
        self.assertEqual(book.bill(33), (2, 33, 110, [], 110))

    def test_several_on_one_day(self):
        book = water()
        told = [book.bill(30) for month in range(3)]
        self.assertEqual(told, [(month, 30, 110, [], 110) for month in range(3)])
        with self.assertRaises(TooEarly):
            book.bill(30)

    def test_an_earlier_month_put_right(self):
        book = put_right()
        self.assertEqual(book.bills()[2], (2, 30, 210, [(1, 100)], 310))

    def test_put_right_once_only(self):
        book = put_right()
        self.assertEqual(book.bill(40), (3, 40, 210, [], 210))

    def test_put_right_more_than_once(self):
        book = put_right()
        book.tell(31, "water", 15, 60)
        self.assertEqual(book.bill(40), (3, 40, 370, [(2, 160)], 530))
        book.wrong(41, "water", 20)
        puts = [(1, -160), (2, -320), (3, -320)]
        self.assertEqual(book.bill(50), (4, 50, 50, puts, -750))
        self.assertEqual(book.bill(60), (5, 60, 50, [], 50))
        self.assertEqual(totals(book), 110 + 5 * 50)

    def test_a_month_without_a_difference_is_not_told(self):
        book = water()
        for known in (10, 20, 30):
            book.bill(known)
        # Month 1 uses 50 by the new marks too, month 2 does not.
        book.tell(31, "water", 20, 100)
        book.tell(31, "water", 30, 160)
        self.assertEqual(book.bill(40), (3, 40, 130, [(2, 20)], 150))

    def test_put_right_and_back_again_between_two_bills(self):
        book = water()
        book.bill(10)
        book.tell(11, "water", 10, 60)
        self.assertEqual(book.cost_known(0, 11), 130)
        book.tell(12, "water", 10, 50)
        self.assertEqual(book.bill(20), (1, 20, 110, [], 110))

    def test_put_right_and_back_again_by_bills(self):
        book = water()
        book.bill(10)
        book.tell(11, "water", 10, 60)
        self.assertEqual(book.bill(20), (1, 20, 130, [(0, 20)], 150))
        book.tell(21, "water", 10, 50)
        self.assertEqual(book.bill(30), (2, 30, 110, [(0, -20), (1, -20)], 70))

    def test_the_cost_goes_by_all_that_is_known(self):
        book = water()
        book.tell(12, "water", 11, 65)
        self.assertEqual(book.bill(20), (0, 20, 110, [], 110))
        self.assertEqual(book.bill(20), (1, 20, 310, [], 310))

    def test_all_counters_together(self):
        book = Book(house(month=1))
        book.tell(0, "power", 0, 0)
        book.tell(0, "gas", 0, 10)
        book.tell(1, "power", 1, 8)
        book.tell(1, "gas", 1, 14)
        cost = 2 * 10 + (3 * 20 + 1 * 22) + (2 * 32 + 4 * 130) + 6
        self.assertEqual(book.bill(1), (0, 1, cost, [], cost))

    def test_a_change_of_the_meter_puts_right(self):
        book = water()
        book.bill(10)
        book.change(11, "water", 10, 90, 0, 4)
        book.tell(20, "water", 20, 30)
        self.assertEqual(book.bill(20), (1, 20, 70, [(0, 80)], 150))

    def test_what_is_told_are_tuples_with_a_list_of_tuples(self):
        told = put_right().bills()
        self.assertIs(type(told), list)
        for bill in told:
            self.assertIs(type(bill), tuple)
            self.assertIs(type(bill[3]), list)
            self.assertTrue(all(type(put) is tuple for put in bill[3]))

    def test_far_days_and_many_months(self):
        book = water()
        for month in range(60):
            self.assertEqual(book.bill(10 ** 12 - 1), (month, 10 ** 12 - 1, 110, [], 110))


class RefusedBillTest(unittest.TestCase):
    def refuse(self, error, book, known):
        before = (book.bills(), book.marks("water"), book.cost_known(0, 400))
        with self.assertRaises(error) as caught:
            book.bill(known)
        self.assertIs(type(caught.exception), error)
        self.assertEqual((book.bills(), book.marks("water"), book.cost_known(0, 400)), before)

    def test_too_early(self):
        book = Book(even())
        for known in (0, 1, 9):
            self.refuse(TooEarly, book, known)
        book.bill(10)
        for known in (10, 11, 19):
            self.refuse(TooEarly, book, known)
        book.bill(20)

    def test_too_early_by_the_sheets_month(self):
        for days in (1, 2, 31):
            book = Book(even(month=days))
            self.refuse(TooEarly, book, days - 1)
            self.assertEqual(book.bill(days)[0], 0)
            self.refuse(TooEarly, book, 2 * days - 1)
            self.assertEqual(book.bill(2 * days)[0], 1)

    def test_too_late_by_a_deed(self):
        book = Book(even())
        book.tell(15, "water", 0, 0)
        self.refuse(TooLate, book, 14)
        self.assertEqual(book.bill(15), (0, 15, 0, [], 0))

    def test_too_late_by_a_change_or_what_was_wrong(self):
        book = Book(even())
        book.change(15, "water", 0, 0, 0, 4)
        self.refuse(TooLate, book, 14)
        book.wrong(16, "water", 0)
        self.refuse(TooLate, book, 15)
        book.bill(16)

    def test_too_late_by_a_bill(self):
        book = Book(even())
        book.bill(25)
        self.refuse(TooLate, book, 24)
        self.assertEqual(book.bill(25), (1, 25, 0, [], 0))

    def test_too_late_ahead_of_too_early(self):
        book = Book(even())
        book.tell(5, "water", 0, 0)
        self.refuse(TooLate, book, 4)
        self.refuse(TooEarly, book, 5)
        book.bill(12)
        self.refuse(TooLate, book, 11)
        self.refuse(TooEarly, book, 12)

    def test_the_next_bill_is_of_the_same_month(self):
        book = water()
        self.refuse(TooLate, book, 9)
        self.assertEqual(book.bill(10), (0, 10, 110, [], 110))
        self.refuse(TooEarly, book, 19)
        book.tell(19, "water", 19, 95)
        self.assertEqual(book.bill(20), (1, 20, 110, [], 110))

    def test_a_refused_bill_puts_nothing_right(self):
        book = water()
        book.bill(10)
        book.tell(11, "water", 10, 60)
        self.refuse(TooEarly, book, 19)
        self.assertEqual(book.bill(20), (1, 20, 130, [(0, 20)], 150))

    def test_a_refused_bill_does_not_count_as_known(self):
        book = Book(even(month=31))
        self.refuse(TooEarly, book, 30)
        book.tell(1, "water", 0, 0)
        self.assertEqual(book.marks_known("water", 1), [(0, 0, 0, 5)])


class BillsTest(unittest.TestCase):
    def test_all_as_they_were_drawn(self):
        book = Book(even(price=2, standing=1))
        drawn = []
        book.tell(0, "water", 0, 0)
        for month in range(6):
            book.tell(10 * month + 9, "water", 10 * month + 7, 70 * month * month)
            drawn.append(book.bill(10 * month + 10))
            self.assertEqual(book.bills(), drawn)
        book.wrong(90, "water", 7)
        self.assertEqual(book.bills(), drawn)
        self.assertTrue(all(bill[3] for bill in drawn[2:]))

    def test_totals_come_to_the_costs_by_what_is_known_on_the_last_ones_day(self):
        book = put_right()
        self.assertEqual(totals(book), costs(book, 30))
        self.assertEqual(totals(book), 110 + 210 + 210)
        book.tell(31, "water", 15, 60)
        self.assertEqual(totals(book), costs(book, 30))
        self.assertNotEqual(totals(book), costs(book, 31))

    def test_books_in_which_the_same_is_known_in_the_end_come_to_the_same(self):
        plain = Book(even(price=2, standing=1))
        plain.tell(0, "water", 20, 180)
        plain.tell(0, "water", 0, 0)
        plain.tell(0, "water", 10, 50)
        for month in range(3):
            plain.bill(30)
        about = Book(even(price=2, standing=1))
        about.change(0, "water", 3, 9, 70, 2)
        about.tell(4, "water", 10, 60)
        about.bill(10)
        about.wrong(12, "water", 3)
        about.tell(12, "water", 0, 0)
        about.bill(20)
        about.tell(21, "water", 10, 50)
        about.tell(25, "water", 20, 180)
        about.bill(31)
        self.assertEqual(plain.marks("water"), about.marks("water"))
        self.assertNotEqual([bill[4] for bill in plain.bills()], [bill[4] for bill in about.bills()])
        self.assertEqual(totals(plain), totals(about))

    def test_like_the_slow_reckoning(self):
        chance = random.Random(22)
        several = 0
        for place in range(90):
            sheet = some_sheet(chance)
            book = Book(sheet)
            log = []
            last = []
            for deed in some_log(chance, sheet, count=30):
                told = done(book, deed)
                if told[0] != "refused":
                    log.append(deed)
                if told[0] != "bill":
                    continue
                month, known, cost, puts, total = told[1]
                now = [slow_cost(sheet, log, former) for former in range(len(last) + 1)]
                wanted = [(former, now[former] - last[former]) for former in range(len(last))]
                wanted = [put for put in wanted if put[1] != 0]
                self.assertEqual((month, known, cost, puts), (len(last), deed[1], now[-1], wanted))
                self.assertEqual(total, cost + sum(difference for former, difference in puts))
                self.assertEqual(totals(book), sum(now))
                several += len(puts) > 1
                last = now
        self.assertGreater(several, 5)

    def test_the_same_in_whatever_order(self):
        chance = random.Random(23)
        alike = 0
        for place in range(40):
            sheet = some_sheet(chance)
            book = Book(sheet)
            for deed in some_log(chance, sheet, count=24):
                done(book, deed)
            last = max([bill[1] for bill in book.bills()] + [0])
            other = Book(sheet)
            for counter, marks in book.state_known(last).items():
                for day, arrived, left, figures in sorted(marks, key=lambda mark: chance.random()):
                    done(other, ("change", 0, counter, day, arrived, left, figures))
            if other.state_known(0) == book.state_known(last):
                for bill in book.bills():
                    other.bill(last)
                self.assertEqual(totals(other), totals(book))
                alike += len(book.bills()) > 1
        self.assertGreater(alike, 10)


class CostKnownTest(unittest.TestCase):
    def test_billed_and_unbilled_months(self):
        book = put_right()
        told = [[book.cost_known(month, known) for month in range(5)] for known in (0, 9, 10, 20, 21, 400)]
        first = [10, 10, 10, 10, 10]
        then = [110, 110, 110, 110, 110]
        now = [110, 210, 210, 210, 210]
        self.assertEqual(told, [first, first, then, then, now, now])

    def test_of_no_deeds(self):
        self.assertEqual(Book(house()).cost_known(0, 0), 60)

    def test_it_draws_nothing(self):
        book = water()
        book.cost_known(0, 400)
        self.assertEqual(book.bills(), [])
        self.assertEqual(book.bill(10)[0], 0)

    def test_it_is_the_months_cost_by_the_state(self):
        chance = random.Random(24)
        for place in range(10):
            sheet = some_sheet(chance)
            book = Book(sheet)
            for deed in some_log(chance, sheet):
                done(book, deed)
            for known in (0, 3, 17, 60, 400):
                for month in (0, 1, 2):
                    state = book.state_known(known)
                    self.assertEqual(book.cost_known(month, known), month_cost(sheet, state, month))

    def test_the_last_month(self):
        book = Book(even(price=2, standing=1, month=1))
        book.tell(0, "water", 0, 0)
        book.tell(0, "water", 400, 4000)
        self.assertEqual(book.cost_known(400, 0), 21)
        self.assertEqual(book.cost_known(399, 0), 21)
