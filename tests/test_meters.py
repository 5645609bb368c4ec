import copy
import random
import unittest

from meterbook.meters import risen, slot_use, so_far, uses
from meterbook.sheets import counters
from tests.samples import cases, even, fields_of, house, slow_so_far


def reading(day, value, figures=4):
    return (day, value, value, figures)


class RisenTest(unittest.TestCase):
    def test_at_nought(self):
        self.assertEqual(risen(1, 0, 0), 0)
        self.assertEqual(risen(9, 0, 0), 0)

    def test_alike(self):
        self.assertEqual(risen(3, 456, 456), 0)

    def test_one_apart(self):
        self.assertEqual(risen(3, 455, 456), 1)
        self.assertEqual(risen(3, 456, 455), 999)

    def test_plain_rise(self):
        self.assertEqual(risen(5, 100, 250), 150)

    def test_round_past_the_figures(self):
        self.assertEqual(risen(1, 9, 0), 1)
        self.assertEqual(risen(4, 9990, 5), 15)
        self.assertEqual(risen(9, 10 ** 9 - 1, 0), 1)
        self.assertEqual(risen(9, 0, 10 ** 9 - 1), 10 ** 9 - 1)

    def test_numbers_that_show_more_than_the_figures(self):
        self.assertEqual(risen(2, 123, 456), 33)
        self.assertEqual(risen(2, 456, 123), 67)
        self.assertEqual(risen(1, 10, 0), 0)
        self.assertEqual(risen(1, 0, 10 ** 9 - 1), 9)
        self.assertEqual(risen(3, 1000, 2000), 0)

    def test_figures_somewhat_beyond_nine(self):
        self.assertEqual(risen(10, 10 ** 10 - 1, 4), 5)
        self.assertEqual(risen(12, 5, 4), 10 ** 12 - 1)

    def test_leads_from_before_to_after_by_less_than_a_round(self):
        for figures in range(1, 10):
            for before, after in ((0, 1), (7, 3), (999, 1000), (10 ** 9 - 1, 17)):
                told = risen(figures, before, after)
                self.assertTrue(0 <= told < 10 ** figures)
                self.assertEqual((before + told) % 10 ** figures, after % 10 ** figures)


class UsesTest(unittest.TestCase):
    def test_no_mark_and_one(self):
        self.assertEqual(uses([]), [])
        self.assertEqual(uses([reading(3, 50)]), [])

    def test_two_marks(self):
        self.assertEqual(uses([reading(3, 50), reading(7, 80)]), [(3, 7, 30)])

    def test_more_marks(self):
        marks = [reading(0, 9990), reading(1, 5), reading(5, 5), reading(400, 105)]
        self.assertEqual(uses(marks), [(0, 1, 15), (1, 5, 0), (5, 400, 100)])

    def test_changed_meter_counts_up_to_arrived_and_on_from_left(self):
        marks = [reading(0, 100), (4, 130, 7, 2), reading(9, 17, 2)]
        self.assertEqual(uses(marks), [(0, 4, 30), (4, 9, 10)])

    def test_figures_are_the_formers(self):
        marks = [(0, 0, 90, 2), (4, 20, 20, 5), (9, 10, 10, 2)]
        self.assertEqual(uses(marks), [(0, 4, 30), (4, 9, 99990)])

    def test_a_reading_more_between_two_leaves_the_sum_or_adds_a_round(self):
        chance = random.Random(3)
        seen = {}
        for place in range(300):
            figures = chance.randint(1, 3)
            former = (2, 0, chance.randint(0, 1200), figures)
            latter = (9, chance.randint(0, 1200), 0, chance.randint(1, 9))
            value = chance.randint(0, 1200)
            plain = sum(use for begin, end, use in uses([former, latter]))
            more = sum(use for begin, end, use in uses([former, (5, value, value, figures), latter]))
            self.assertIn(more - plain, (0, 10 ** figures))
            seen[more == plain] = True
        self.assertEqual(len(seen), 2)

    def test_told_lists_are_the_askers_own(self):
        marks = [reading(3, 50), reading(7, 80)]
        told = uses(marks)
        told.clear()
        self.assertEqual(uses(marks), [(3, 7, 30)])
        self.assertEqual(marks, [reading(3, 50), reading(7, 80)])
        empty = uses([])
        empty.append(1)
        self.assertEqual(uses([]), [])

    def test_what_is_told_are_tuples(self):
        self.assertTrue(all(type(row) is tuple for row in uses([reading(3, 50), reading(7, 80)])))


class SoFarTest(unittest.TestCase):
    def test_no_mark(self):
        for slot in (0, 5, 803):
            self.assertEqual(so_far(even(bands=2), "water", [], slot), 0)

    def test_one_mark(self):
        for slot in (0, 5, 6, 7, 803):
            self.assertEqual(so_far(even(bands=2), "water", [reading(3, 50)], slot), 0)

    def test_ahead_of_the_first_mark_and_at_it(self):
        marks = [reading(3, 50), reading(7, 90)]
        self.assertEqual([so_far(even(bands=2), "water", marks, slot) for slot in range(7)], [0] * 7)

    def test_between_marks(self):
        marks = [reading(3, 50), reading(7, 90)]
        told = [so_far(even(bands=2), "water", marks, slot) for slot in range(6, 15)]
        self.assertEqual(told, [0, 5, 10, 15, 20, 25, 30, 35, 40])

    def test_between_marks_it_is_rounded_down(self):
        marks = [reading(0, 0), reading(3, 2)]
        self.assertEqual([so_far(even(), "water", marks, slot) for slot in range(4)], [0, 0, 1, 2])

    def test_at_a_mark_all_is_there_and_goes_on(self):
        marks = [reading(0, 0), reading(3, 2), reading(4, 9), reading(6, 10)]
        self.assertEqual([so_far(even(), "water", marks, slot) for slot in range(7)], [0, 0, 1, 2, 9, 9, 10])

    def test_behind_the_last_mark_the_last_use_goes_on(self):
        marks = [reading(0, 0), reading(1, 50), reading(4, 52)]
        self.assertEqual([so_far(even(), "water", marks, slot) for slot in range(4, 11)], [52, 52, 53, 54, 54, 55, 56])

    def test_behind_the_last_mark_by_many_days(self):
        marks = [reading(0, 0), reading(1, 50)]
        self.assertEqual(so_far(even(), "water", marks, 401), 50 * 401)

    def test_weights_count(self):
        # Days 2 and 3 of the house weigh 1 and 3, then 7 and 0 for power: 11 in all.
        marks = [reading(2, 0), reading(4, 110)]
        told = [so_far(house(), "power", marks, slot) for slot in range(6, 13)]
        self.assertEqual(told, [0, 10, 10, 40, 110, 110, 110])

    def test_the_guess_goes_by_the_last_stretchs_weight(self):
        # Day 2 weighs 4, day 3, special, weighs 7, day 4 weighs 4 again.
        marks = [reading(2, 0), reading(3, 8)]
        told = [so_far(house(), "power", marks, slot) for slot in range(9, 16)]
        self.assertEqual(told, [8, 22, 22, 22, 24, 24, 30])

    def test_only_the_counters_own_weights_count(self):
        marks = [reading(0, 0), reading(1, 8)]
        self.assertEqual([so_far(house(), "gas", marks, slot) for slot in range(4)], [0, 0, 8, 8])

    def test_a_changed_meter(self):
        marks = [reading(0, 100), (2, 120, 5, 2), reading(4, 5 + 40, 2)]
        self.assertEqual([so_far(even(), "water", marks, slot) for slot in range(6)], [0, 10, 20, 40, 60, 80])

    def test_a_changed_meter_as_the_last_mark(self):
        marks = [reading(0, 100), (2, 120, 5, 2)]
        self.assertEqual([so_far(even(), "water", marks, slot) for slot in range(5)], [0, 10, 20, 30, 40])

    def test_great_numbers(self):
        marks = [(0, 0, 0, 9), (1, 10 ** 9 - 1, 10 ** 9 - 1, 9)]
        self.assertEqual(so_far(even(), "water", marks, 401), 401 * (10 ** 9 - 1))

    def test_like_the_slow_reckoning(self):
        for sheet, marks in cases(40):
            for counter in counters(sheet):
                for slot in range(0, 70 * len(sheet.bands), 3):
                    told = so_far(sheet, counter, marks[counter], slot)
                    self.assertEqual(told, slow_so_far(sheet, counter, marks[counter], slot))


class SlotUseTest(unittest.TestCase):
    def test_no_mark_and_one(self):
        for marks in ([], [reading(1, 50)]):
            self.assertEqual([slot_use(even(), "water", marks, slot) for slot in (0, 1, 2, 400)], [0, 0, 0, 0])

    def test_ahead_at_between_and_behind(self):
        marks = [reading(1, 0), reading(4, 2)]
        self.assertEqual([slot_use(even(), "water", marks, slot) for slot in range(7)], [0, 0, 1, 1, 0, 1, 1])

    def test_the_slot_ahead_of_a_mark_takes_what_is_left(self):
        marks = [reading(1, 0), reading(4, 2), reading(5, 9)]
        self.assertEqual([slot_use(even(), "water", marks, slot) for slot in range(1, 6)], [0, 1, 1, 7, 7])

    def test_the_last_slot(self):
        marks = [reading(0, 0), reading(400, 800)]
        self.assertEqual(slot_use(even(bands=2), "water", marks, 801), 1)

    def test_the_slot_behind_the_last_day(self):
        marks = [reading(0, 0), reading(400, 800)]
        self.assertEqual(slot_use(even(bands=2), "water", marks, 802), 1)

    def test_no_weight_no_use(self):
        marks = [reading(0, 0), reading(10, 4300)]
        # Gas slots, the night of day 5 (rest) and the noon of day 3 (feast) weigh nothing for power.
        for slot in (1, 4, 28, 15, 11):
            self.assertEqual(slot_use(house(), "power", marks, slot), 0)
        self.assertEqual(slot_use(house(), "power", marks, 9), 700)
        self.assertEqual(slot_use(house(), "power", marks, 17), 400)

    def test_no_weight_at_the_end_of_a_stretch(self):
        marks = [reading(3, 0), reading(4, 9)]
        self.assertEqual([slot_use(house(), "power", marks, slot) for slot in range(9, 12)], [9, 0, 0])

    def test_never_below_nought_and_nought_without_weight(self):
        for sheet, marks in cases(25, seed=5):
            size = len(sheet.bands)
            for counter in counters(sheet):
                for slot in range(60 * size):
                    told = slot_use(sheet, counter, marks[counter], slot)
                    self.assertGreaterEqual(told, 0)
                    if sheet.bands[slot % size][1] != counter:
                        self.assertEqual(told, 0)

    def test_from_mark_to_mark_they_come_to_the_uses(self):
        for sheet, marks in cases(25, seed=6):
            size = len(sheet.bands)
            for counter in counters(sheet):
                for begin, end, use in uses(marks[counter]):
                    slots = range(begin * size, end * size)
                    self.assertEqual(sum(slot_use(sheet, counter, marks[counter], slot) for slot in slots), use)

    def test_all_together_come_to_what_lies_ahead(self):
        for sheet, marks in cases(15, seed=7):
            for counter in counters(sheet):
                told = [slot_use(sheet, counter, marks[counter], slot) for slot in range(120)]
                self.assertEqual(sum(told), so_far(sheet, counter, marks[counter], 120))


class NothingChangedTest(unittest.TestCase):
    def test_asking_changes_neither_sheet_nor_marks(self):
        sheet = house()
        kept = fields_of(sheet)
        marks = [reading(2, 0), (4, 110, 3, 2), reading(6, 9, 2)]
        before = copy.deepcopy(marks)
        for slot in (0, 7, 14, 60):
            so_far(sheet, "power", marks, slot)
            slot_use(sheet, "power", marks, slot)
        uses(marks)
        self.assertEqual(marks, before)
        self.assertEqual(fields_of(sheet), kept)

    def test_asked_again_it_is_told_again(self):
        sheet = house()
        marks = [reading(2, 0), reading(4, 110)]
        self.assertEqual(so_far(sheet, "power", marks, 9), 40)
        marks.append(reading(5, 111))
        self.assertEqual(so_far(sheet, "power", marks, 15), 111)
        marks.pop()
        self.assertEqual(so_far(sheet, "power", marks, 9), 40)
        self.assertEqual(so_far(sheet, "power", marks, 15), 150)

    def test_a_counter_that_no_band_names_keeps_its_uses_whole(self):
        marks = [reading(2, 0), reading(4, 110)]
        self.assertEqual([so_far(house(), "air", marks, slot) for slot in (6, 9, 12, 15)], [0, 0, 110, 110])
