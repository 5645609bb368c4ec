"""The book: deeds, refusals and what is known on a day."""

import itertools
import random
import unittest

from meterbook.books import Book
from meterbook.errors import BadValue, NoCounter, NoMark, TooFast, TooLate
from meterbook.hall import done
from tests.samples import even, house, slow_marks, slow_refusal, some_log, some_sheet


def reading(day, value, figures=5):
    return (day, value, value, figures)


def shown(book, last=60):
    """All that a book of the house or of water answers."""
    counters = list(book.state_known(0))
    return (
        [book.marks(counter) for counter in counters],
        [[book.marks_known(counter, day) for counter in counters] for day in range(last)],
        [book.state_known(day) for day in range(last)],
        [[book.cost_known(month, day) for month in range(3)] for day in (0, 5, last)],
        book.bills(),
    )


def filled():
    """A book of water with readings on days 10, 20 and 30, known on those days."""
    book = Book(even())
    book.tell(10, "water", 10, 100)
    book.tell(20, "water", 20, 200)
    book.tell(30, "water", 30, 300)
    return book


class MarksTest(unittest.TestCase):
    def test_nothing_is_known_at_first(self):
        book = Book(house())
        self.assertEqual(book.marks("power"), [])
        self.assertEqual(book.marks_known("gas", 400), [])
        self.assertEqual(book.state_known(400), {"power": [], "gas": []})
        self.assertEqual(book.bills(), [])

    def test_readings_in_order(self):
        self.assertEqual(filled().marks("water"), [reading(10, 100), reading(20, 200), reading(30, 300)])

    def test_a_reading_ahead_of_between_and_behind_marks(self):
        book = filled()
        book.tell(40, "water", 0, 50)
        book.tell(40, "water", 25, 250)
        book.tell(40, "water", 400, 300)
        days = [mark[0] for mark in book.marks("water")]
        self.assertEqual(days, [0, 10, 20, 25, 30, 400])
        self.assertEqual(book.marks("water")[3], reading(25, 250))

    def test_a_reading_may_be_told_ahead_of_and_behind_the_day_it_became_known(self):
        book = Book(even())
        book.tell(5, "water", 9, 1)
        book.tell(300, "water", 0, 0)
        self.assertEqual(book.marks("water"), [reading(0, 0), reading(9, 1)])

    def test_a_reading_takes_a_readings_place(self):
        book = filled()
        book.tell(30, "water", 20, 201)
        self.assertEqual(book.marks("water"), [reading(10, 100), reading(20, 201), reading(30, 300)])

    def test_a_change(self):
        book = filled()
        book.change(31, "water", 40, 350, 7, 2)
        book.tell(32, "water", 41, 12)
        self.assertEqual(book.marks("water")[2:], [reading(30, 300), (40, 350, 7, 2), reading(41, 12, 2)])

    def test_a_change_takes_a_readings_place(self):
        book = filled()
        book.change(31, "water", 20, 205, 290, 3)
        self.assertEqual(book.marks("water"), [reading(10, 100), (20, 205, 290, 3), reading(30, 300, 3)])

    def test_a_reading_takes_a_changes_place(self):
        book = filled()
        book.change(31, "water", 20, 205, 290, 3)
        book.tell(31, "water", 20, 204)
        self.assertEqual(book.marks("water"), [reading(10, 100), reading(20, 204), reading(30, 300)])

    def test_a_change_takes_a_changes_place(self):
        book = filled()
        book.change(31, "water", 20, 205, 290, 3)
        book.change(31, "water", 20, 206, 291, 4)
        self.assertEqual(book.marks("water"), [reading(10, 100), (20, 206, 291, 4), reading(30, 300, 4)])

    def test_what_was_wrong_is_nothing(self):
        for day in (10, 20, 30):
            book = filled()
            book.wrong(30, "water", day)
            left = [value for value in (10, 20, 30) if value != day]
            self.assertEqual(book.marks("water"), [reading(value, value * 10) for value in left])

    def test_told_again_for_a_day_that_was_wrong(self):
        book = filled()
        book.wrong(31, "water", 20)
        book.tell(31, "water", 20, 222)
        self.assertEqual(book.marks("water"), [reading(10, 100), reading(20, 222), reading(30, 300)])

    def test_all_taken_out(self):
        book = filled()
        for day in (20, 10, 30):
            book.wrong(30, "water", day)
        self.assertEqual(book.marks("water"), [])
        self.assertEqual(book.state_known(400), {"water": []})

    def test_counters_are_kept_apart(self):
        book = Book(house())
        book.tell(0, "power", 3, 5)
        book.tell(0, "gas", 3, 6)
        book.change(0, "gas", 4, 7, 0, 2)
        book.wrong(0, "power", 3)
        self.assertEqual(book.marks("power"), [])
        self.assertEqual(book.marks("gas"), [(3, 6, 6, 3), (4, 7, 0, 2)])

    def test_one_book_knows_nothing_of_another(self):
        sheet = even()
        one = Book(sheet)
        other = Book(sheet)
        one.tell(0, "water", 0, 0)
        self.assertEqual(other.marks("water"), [])


class FiguresTest(unittest.TestCase):
    def setUp(self):
        self.book = Book(even())
        for day in (10, 20, 30, 40, 50):
            self.book.tell(0, "water", day, day)

    def figures(self):
        return [mark[3] for mark in self.book.marks("water")]

    def test_the_sheets_where_nothing_is_ahead(self):
        self.assertEqual(self.figures(), [5, 5, 5, 5, 5])
        self.book.tell(0, "water", 5, 5)
        self.assertEqual(self.figures(), [5] * 6)

    def test_a_change_holds_for_all_readings_behind_it(self):
        self.book.change(0, "water", 25, 25, 25, 3)
        self.assertEqual(self.figures(), [5, 5, 3, 3, 3, 3])

    def test_up_to_the_next_change(self):
        self.book.change(0, "water", 25, 25, 25, 3)
        self.book.change(0, "water", 45, 45, 45, 7)
        self.assertEqual(self.figures(), [5, 5, 3, 3, 3, 7, 7])
        self.book.change(0, "water", 35, 35, 35, 2)
        self.assertEqual(self.figures(), [5, 5, 3, 3, 2, 2, 7, 7])

    def test_a_change_on_the_first_day_and_on_the_last(self):
        self.book.change(0, "water", 10, 10, 10, 4)
        self.assertEqual(self.figures(), [4, 4, 4, 4, 4])
        self.book.change(0, "water", 50, 50, 50, 6)
        self.assertEqual(self.figures(), [4, 4, 4, 4, 6])

    def test_a_change_ahead_of_all(self):
        self.book.change(0, "water", 0, 9, 0, 4)
        self.assertEqual(self.figures(), [4, 4, 4, 4, 4, 4])

    def test_a_reading_told_behind_a_change(self):
        self.book.change(0, "water", 25, 25, 25, 3)
        self.book.tell(0, "water", 26, 26)
        self.book.tell(0, "water", 24, 25)
        self.book.tell(0, "water", 400, 60)
        self.assertEqual(self.figures(), [5, 5, 5, 3, 3, 3, 3, 3, 3])

    def test_a_change_taken_out(self):
        self.book.change(0, "water", 25, 25, 25, 3)
        self.book.wrong(0, "water", 25)
        self.assertEqual(self.figures(), [5, 5, 5, 5, 5])

    def test_a_change_taken_out_behind_another_and_ahead_of_another(self):
        self.book.change(0, "water", 15, 15, 15, 2)
        self.book.change(0, "water", 25, 25, 25, 3)
        self.book.change(0, "water", 45, 45, 45, 4)
        self.book.wrong(0, "water", 25)
        self.assertEqual(self.figures(), [5, 2, 2, 2, 2, 4, 4])

    def test_a_change_whose_place_a_reading_takes(self):
        self.book.change(0, "water", 20, 20, 20, 2)
        self.book.change(0, "water", 30, 30, 30, 3)
        self.book.tell(0, "water", 30, 31)
        self.assertEqual(self.figures(), [5, 2, 2, 2, 2])

    def test_a_reading_taken_out_changes_no_figures(self):
        self.book.change(0, "water", 20, 20, 20, 2)
        self.book.wrong(0, "water", 30)
        self.book.wrong(0, "water", 10)
        self.assertEqual(self.figures(), [2, 2, 2])

    def test_a_change_of_like_values_keeps_its_own(self):
        self.book.change(0, "water", 30, 30, 30, 5)
        self.book.change(0, "water", 20, 20, 20, 2)
        self.assertEqual(self.figures(), [5, 2, 5, 5, 5])

    def test_known_on_earlier_days_the_figures_are_those_of_then(self):
        self.book.change(1, "water", 20, 20, 20, 2)
        self.book.wrong(2, "water", 20)
        told = [[mark[3] for mark in self.book.marks_known("water", known)] for known in range(3)]
        self.assertEqual(told, [[5, 5, 5, 5, 5], [5, 2, 2, 2, 2], [5, 5, 5, 5]])


class KnownTest(unittest.TestCase):
    def test_ahead_of_on_and_behind_the_day(self):
        book = filled()
        told = [len(book.marks_known("water", known)) for known in (0, 9, 10, 11, 19, 20, 29, 30, 31, 400)]
        self.assertEqual(told, [0, 0, 1, 1, 1, 2, 2, 3, 3, 3])

    def test_it_goes_by_the_day_of_knowing_alone(self):
        book = Book(even())
        book.tell(7, "water", 30, 300)
        book.tell(9, "water", 0, 0)
        self.assertEqual(book.marks_known("water", 6), [])
        self.assertEqual(book.marks_known("water", 8), [reading(30, 300)])
        self.assertEqual(book.marks_known("water", 9), [reading(0, 0), reading(30, 300)])

    def test_what_took_a_place_and_what_was_wrong(self):
        book = Book(even())
        book.tell(1, "water", 4, 40)
        book.tell(3, "water", 4, 41)
        book.wrong(5, "water", 4)
        book.change(7, "water", 4, 42, 0, 9)
        told = [book.marks_known("water", known) for known in range(9)]
        none = []
        self.assertEqual(told, [
            none, [reading(4, 40)], [reading(4, 40)], [reading(4, 41)], [reading(4, 41)],
            none, none, [(4, 42, 0, 9)], [(4, 42, 0, 9)],
        ])

    def test_several_deeds_of_one_day(self):
        book = Book(even())
        book.tell(3, "water", 4, 40)
        book.wrong(3, "water", 4)
        book.tell(3, "water", 4, 44)
        self.assertEqual(book.marks_known("water", 2), [])
        self.assertEqual(book.marks_known("water", 3), [reading(4, 44)])

    def test_state_of_all_counters(self):
        book = Book(house())
        book.tell(2, "gas", 0, 1)
        book.tell(4, "power", 0, 2)
        self.assertEqual(book.state_known(1), {"power": [], "gas": []})
        self.assertEqual(book.state_known(2), {"power": [], "gas": [(0, 1, 1, 3)]})
        self.assertEqual(book.state_known(3), book.state_known(2))
        self.assertEqual(book.state_known(4), {"power": [(0, 2, 2, 4)], "gas": [(0, 1, 1, 3)]})
        self.assertEqual(book.state_known(400), book.state_known(4))

    def test_what_was_known_stays_whatever_is_told_later(self):
        book = filled()
        then = book.marks_known("water", 25)
        book.change(40, "water", 5, 90, 90, 3)
        book.wrong(41, "water", 10)
        book.bill(50)
        self.assertEqual(book.marks_known("water", 25), then)
        self.assertEqual(book.marks("water"), [(5, 90, 90, 3), reading(20, 200, 3), reading(30, 300, 3)])

    def test_marks_are_those_known_in_the_end(self):
        book = filled()
        self.assertEqual(book.marks("water"), book.marks_known("water", 30))


class RefusalCase(unittest.TestCase):
    def refuse(self, error, book, name, *values):
        before = shown(book)
        with self.assertRaises(error) as caught:
            getattr(book, name)(*values)
        self.assertIs(type(caught.exception), error)
        self.assertEqual(shown(book), before)


class RefusedTest(RefusalCase):
    def test_known_ahead_of_a_deed(self):
        book = filled()
        self.refuse(TooLate, book, "tell", 29, "water", 40, 310)
        self.refuse(TooLate, book, "change", 29, "water", 40, 310, 0, 5)
        self.refuse(TooLate, book, "wrong", 29, "water", 10)
        self.refuse(TooLate, book, "tell", 0, "water", 40, 310)
        book.tell(30, "water", 40, 310)

    def test_known_on_the_day_of_a_deed(self):
        book = filled()
        book.tell(30, "water", 40, 310)
        book.change(30, "water", 50, 320, 0, 5)
        book.wrong(30, "water", 10)
        self.assertEqual(len(book.marks("water")), 4)

    def test_each_deed_counts(self):
        book = Book(even())
        book.change(5, "water", 0, 0, 0, 5)
        self.refuse(TooLate, book, "tell", 4, "water", 3, 3)
        book.wrong(7, "water", 0)
        self.refuse(TooLate, book, "tell", 6, "water", 3, 3)

    def test_known_on_the_day_of_the_last_bill(self):
        book = filled()
        book.bill(33)
        self.refuse(TooLate, book, "tell", 33, "water", 40, 310)
        self.refuse(TooLate, book, "change", 33, "water", 40, 310, 0, 5)
        self.refuse(TooLate, book, "wrong", 33, "water", 10)
        self.refuse(TooLate, book, "tell", 32, "water", 40, 310)
        book.tell(34, "water", 40, 310)

    def test_the_last_bill_counts(self):
        book = filled()
        book.bill(33)
        book.bill(35)
        self.refuse(TooLate, book, "wrong", 34, "water", 10)
        self.refuse(TooLate, book, "wrong", 35, "water", 10)
        book.wrong(36, "water", 10)

    def test_what_was_refused_does_not_count(self):
        book = filled()
        self.refuse(NoCounter, book, "tell", 300, "air", 40, 310)
        self.refuse(BadValue, book, "tell", 300, "water", 401, 310)
        self.refuse(TooFast, book, "change", 300, "water", 31, 9999, 0, 5)
        self.refuse(NoMark, book, "wrong", 300, "water", 11)
        book.tell(30, "water", 40, 310)

    def test_no_counter(self):
        book = filled()
        self.refuse(NoCounter, book, "tell", 30, "air", 40, 310)
        self.refuse(NoCounter, book, "change", 30, "air", 40, 310, 0, 5)
        self.refuse(NoCounter, book, "wrong", 30, "air", 10)
        self.refuse(NoCounter, book, "marks", "air")
        self.refuse(NoCounter, book, "marks_known", "air", 3)

    def test_a_band_or_a_kind_is_no_counter(self):
        book = Book(house())
        for name in ("night", "work", "powe", "powers"):
            self.refuse(NoCounter, book, "tell", 0, name, 0, 0)

    def test_no_mark(self):
        book = filled()
        for day in (0, 9, 11, 31, 400, 401, -1):
            self.refuse(NoMark, book, "wrong", 30, "water", day)

    def test_no_mark_where_it_was_taken_out(self):
        book = filled()
        book.wrong(30, "water", 20)
        self.refuse(NoMark, book, "wrong", 30, "water", 20)

    def test_no_mark_of_another_counter(self):
        book = Book(house())
        book.tell(0, "power", 3, 5)
        self.refuse(NoMark, book, "wrong", 0, "gas", 3)

    def test_bad_values(self):
        book = Book(even())
        for value in (-1, 10 ** 9, 10 ** 12 - 1):
            self.refuse(BadValue, book, "tell", 0, "water", 0, value)
            self.refuse(BadValue, book, "change", 0, "water", 0, value, 0, 5)
            self.refuse(BadValue, book, "change", 0, "water", 0, 0, value, 5)
        for figures in (-1, 0, 10, 10 ** 12 - 1):
            self.refuse(BadValue, book, "change", 0, "water", 0, 0, 0, figures)
        for day in (-1, 401, 10 ** 12 - 1):
            self.refuse(BadValue, book, "tell", 0, "water", day, 0)
            self.refuse(BadValue, book, "change", 0, "water", day, 0, 0, 5)

    def test_values_at_the_edges(self):
        most = 10 ** 9 - 1
        book = Book(even())
        book.tell(0, "water", 0, most)
        book.change(0, "water", 400, most, most, 1)
        book.change(0, "water", 0, 0, most, 9)
        book.wrong(0, "water", 400)
        book.change(0, "water", 0, most, 0, 5)
        book.tell(0, "water", 400, 0)
        self.assertEqual(book.marks("water"), [(0, most, 0, 5), (400, 0, 0, 5)])

    def test_any_day_of_knowing(self):
        book = Book(even())
        book.tell(10 ** 12 - 1, "water", 0, 0)
        self.assertEqual(book.marks_known("water", 10 ** 12 - 2), [])
        self.assertEqual(book.marks_known("water", 10 ** 12 - 1), [reading(0, 0)])


class TooFastTest(RefusalCase):
    def test_just_as_fast_and_one_more(self):
        book = Book(even())
        book.tell(0, "water", 0, 0)
        self.refuse(TooFast, book, "tell", 0, "water", 1, 101)
        self.refuse(TooFast, book, "tell", 0, "water", 3, 301)
        self.refuse(TooFast, book, "change", 0, "water", 3, 301, 0, 5)
        book.tell(0, "water", 1, 100)
        book.tell(0, "water", 3, 300)

    def test_one_mark_has_no_use(self):
        book = Book(even())
        book.tell(0, "water", 0, 99999)
        self.assertEqual(book.marks("water"), [reading(0, 99999)])

    def test_up_to_the_next_mark(self):
        book = Book(even())
        book.tell(0, "water", 4, 400)
        self.refuse(TooFast, book, "tell", 0, "water", 1, 99)
        self.refuse(TooFast, book, "change", 0, "water", 1, 200, 99, 5)
        book.change(0, "water", 1, 0, 100, 5)

    def test_back_is_round(self):
        book = Book(even())
        book.tell(0, "water", 0, 500)
        self.refuse(TooFast, book, "tell", 0, "water", 10, 499)
        book.tell(0, "water", 10, 500)

    def test_round_within_the_rise(self):
        book = Book(even())
        book.tell(0, "water", 0, 99990)
        book.tell(0, "water", 1, 90)
        self.assertEqual(len(book.marks("water")), 2)

    def test_what_the_figures_do_not_show_does_not_count(self):
        book = Book(even())
        book.change(0, "water", 0, 0, 0, 2)
        book.tell(0, "water", 1, 54321)
        self.assertEqual(book.marks("water"), [(0, 0, 0, 2), reading(1, 54321, 2)])

    def test_in_the_place_of_another(self):
        book = filled()
        self.refuse(TooFast, book, "tell", 30, "water", 20, 99)
        self.refuse(TooFast, book, "tell", 30, "water", 20, 301)
        book.tell(30, "water", 20, 100)
        book.tell(30, "water", 20, 300)

    def test_a_use_far_behind_by_other_figures(self):
        book = Book(even())
        book.change(0, "water", 0, 0, 80, 2)
        book.tell(0, "water", 10, 90)
        book.tell(0, "water", 20, 10)
        # With more figures, from 90 to 10 would be all but a whole round.
        self.refuse(TooFast, book, "change", 0, "water", 5, 85, 85, 5)
        self.refuse(TooFast, book, "tell", 0, "water", 0, 80)
        book.change(0, "water", 5, 85, 85, 3)
        self.assertEqual([mark[3] for mark in book.marks("water")], [2, 3, 3, 3])

    def test_not_asked_of_wrong_but_of_all_that_is_told_then(self):
        book = Book(even())
        book.change(0, "water", 0, 0, 80, 2)
        book.tell(0, "water", 10, 90)
        book.tell(0, "water", 20, 10)
        book.wrong(0, "water", 0)
        self.assertEqual(book.marks("water"), [reading(10, 90), reading(20, 10)])
        self.refuse(TooFast, book, "tell", 0, "water", 400, 10)
        self.refuse(TooFast, book, "tell", 0, "water", 5, 90)
        book.tell(0, "water", 20, 91)
        book.tell(0, "water", 400, 91)

    def test_wrong_with_too_fast_a_use_about(self):
        book = Book(even())
        book.change(0, "water", 0, 0, 80, 2)
        book.tell(0, "water", 10, 90)
        book.tell(0, "water", 20, 10)
        book.wrong(0, "water", 0)
        book.wrong(0, "water", 20)
        self.assertEqual(book.marks("water"), [reading(10, 90)])

    def test_each_counter_by_its_own_rise(self):
        book = Book(house())
        for counter in ("power", "gas"):
            book.tell(0, counter, 0, 0)
        self.refuse(TooFast, book, "tell", 0, "gas", 1, 91)
        book.tell(0, "gas", 1, 90)
        self.refuse(TooFast, book, "tell", 0, "power", 1, 501)
        book.tell(0, "power", 1, 500)

    def test_a_use_of_another_counter_is_not_asked(self):
        book = Book(house())
        book.change(0, "gas", 0, 0, 80, 1)
        book.tell(0, "gas", 1, 79)
        book.wrong(0, "gas", 0)
        book.tell(0, "gas", 2, 79)
        book.change(0, "gas", 0, 0, 9, 1)
        book.tell(0, "gas", 2, 70)
        book.wrong(0, "gas", 0)
        self.refuse(TooFast, book, "tell", 0, "gas", 9, 70)
        book.tell(0, "power", 0, 0)
        book.tell(0, "power", 1, 1)


class FirstDueTest(RefusalCase):
    """Where several refusals are due, the first one of the document's order is told."""

    order = (TooLate, NoCounter, BadValue, TooFast)

    def book(self):
        book = Book(even())
        book.tell(0, "water", 0, 0)
        book.tell(5, "water", 5, 100)
        return book

    def test_readings(self):
        for due in itertools.product((False, True), repeat=4):
            late, unknown, bad, fast = due
            for value, day in ((10 ** 9, 6), (-1, 6), (150, 401), (150, -1)):
                told = value if bad else (9999 if fast else 150)
                where = day if bad else 6
                values = (4 if late else 5, "air" if unknown else "water", where, told)
                wanted = [error for error, is_due in zip(self.order, due) if is_due]
                with self.subTest(values):
                    if wanted:
                        self.refuse(wanted[0], self.book(), "tell", *values)
                    else:
                        self.book().tell(*values)

    def test_changes(self):
        for due in itertools.product((False, True), repeat=4):
            late, unknown, bad, fast = due
            for begun, figures in ((10 ** 9, 5), (-1, 5), (0, 0), (0, 10)):
                values = (
                    4 if late else 5, "air" if unknown else "water", 6, 9999 if fast else 150,
                    begun if bad else 0, figures if bad else 5,
                )
                wanted = [error for error, is_due in zip(self.order, due) if is_due]
                with self.subTest(values):
                    if wanted:
                        self.refuse(wanted[0], self.book(), "change", *values)
                    else:
                        self.book().change(*values)

    def test_what_was_wrong(self):
        for late, unknown, day in itertools.product((False, True), (False, True), (5, 6, 401, -1)):
            values = (4 if late else 5, "air" if unknown else "water", day)
            wanted = TooLate if late else NoCounter if unknown else NoMark if day != 5 else None
            with self.subTest(values):
                if wanted:
                    self.refuse(wanted, self.book(), "wrong", *values)
                else:
                    self.book().wrong(*values)

    def test_late_by_the_bill(self):
        book = self.book()
        book.bill(10)
        self.refuse(TooLate, book, "tell", 10, "air", 401, -1)
        self.refuse(NoCounter, book, "tell", 11, "air", 401, -1)
        self.refuse(TooLate, book, "wrong", 10, "air", 6)
        self.refuse(NoCounter, book, "wrong", 11, "air", 6)


class ByTheWordsTest(unittest.TestCase):
    def test_like_the_slow_reckoning(self):
        chance = random.Random(21)
        words = {}
        for place in range(60):
            sheet = some_sheet(chance)
            book = Book(sheet)
            log = []
            for deed in some_log(chance, sheet):
                wanted = slow_refusal(sheet, log, deed)
                told = done(book, deed)
                self.assertEqual(told[1] if told[0] == "refused" else None, wanted, (log, deed))
                words[wanted] = True
                if wanted is None:
                    log.append(deed)
                for counter in book.state_known(0):
                    self.assertEqual(book.marks(counter), slow_marks(sheet, counter, log))
            for known in range(0, max([deed[1] for deed in log] + [0]) + 2):
                state = {owner: slow_marks(sheet, owner, log, known) for band, owner in sheet.bands}
                self.assertEqual(book.state_known(known), state)
                for counter in state:
                    self.assertEqual(book.marks_known(counter, known), state[counter])
        self.assertEqual(set(words), {None, "late", "counter", "mark", "value", "fast", "early"})
