import copy
import unittest

from meterbook.meters import slot_use
from meterbook.rates import month_cost, month_uses, unit_price
from tests.samples import cases, even, fields_of, house, slow_month, slow_price


def reading(day, value, figures=4):
    return (day, value, value, figures)


class UnitPriceTest(unittest.TestCase):
    def test_no_step(self):
        sheet = house(steps=[])
        for number in (0, 1, 5, 10 ** 12):
            self.assertEqual(unit_price(sheet, 0, number), 10)

    def test_kind_and_band(self):
        sheet = house()
        self.assertEqual([unit_price(sheet, slot, 0) for slot in range(3)], [10, 20, 30])
        self.assertEqual([unit_price(sheet, slot, 0) for slot in range(9, 12)], [12, 22, 32])
        self.assertEqual([unit_price(sheet, slot, 0) for slot in range(15, 18)], [11, 21, 31])
        self.assertEqual([unit_price(sheet, slot, 0) for slot in range(27, 30)], [11, 21, 31])

    def test_below_at_and_above_each_step(self):
        told = [unit_price(house(), 0, number) for number in (0, 4, 5, 6, 7, 8, 9, 19, 20, 21, 10 ** 6)]
        self.assertEqual(told, [10, 10, 12, 12, 12, 110, 110, 110, 11, 11, 11])

    def test_a_step_at_one(self):
        sheet = house(steps=[(1, 4)])
        self.assertEqual([unit_price(sheet, 0, number) for number in (0, 1, 2)], [10, 14, 14])

    def test_four_steps_the_last_with_nothing_more(self):
        sheet = house(steps=[(1, 4), (2, 3), (3, 9), (4, 0)])
        self.assertEqual([unit_price(sheet, 0, number) for number in range(6)], [10, 14, 13, 19, 10, 10])

    def test_the_last_slot(self):
        self.assertEqual(unit_price(even(bands=4, price=7), 400 * 4 + 3, 0), 7)

    def test_like_the_slow_reckoning(self):
        for sheet, marks in cases(20, seed=11):
            for slot in range(0, 40 * len(sheet.bands), 5):
                for number in (0, 1, 10, 30, 59, 60):
                    self.assertEqual(unit_price(sheet, slot, number), slow_price(sheet, slot, number))


class MonthUsesTest(unittest.TestCase):
    def test_no_marks(self):
        self.assertEqual(month_uses(house(), {"power": [], "gas": []}, 0), [])

    def test_one_mark(self):
        self.assertEqual(month_uses(house(), {"power": [reading(2, 9)], "gas": []}, 0), [])

    def test_slots_without_a_use_are_left_out(self):
        marks = {"water": [reading(1, 0), reading(4, 2)]}
        self.assertEqual(month_uses(even(price=3, month=4), marks, 0), [(2, 1, 3), (3, 1, 3)])

    def test_steps_crossed_within_a_slot(self):
        sheet = even(price=3, steps=[(2, 10), (5, 100)], month=2)
        marks = {"water": [reading(0, 0), reading(2, 14)]}
        self.assertEqual(month_uses(sheet, marks, 0), [(0, 7, 7 * 3 + 3 * 10 + 2 * 100), (1, 7, 7 * 3 + 7 * 100)])

    def test_a_slot_that_ends_just_at_a_step(self):
        sheet = even(price=3, steps=[(5, 100)], month=2)
        marks = {"water": [reading(0, 0), reading(2, 10)]}
        self.assertEqual(month_uses(sheet, marks, 0), [(0, 5, 15), (1, 5, 515)])

    def test_all_steps_crossed_within_one_slot(self):
        sheet = even(price=0, steps=[(1, 1), (2, 10), (3, 100), (4, 1000)], month=1)
        marks = {"water": [reading(0, 0), reading(1, 6)]}
        self.assertEqual(month_uses(sheet, marks, 0), [(0, 6, 2111)])

    def test_several_counters_are_numbered_together(self):
        # Day 0 of the house: night, cook, noon weigh 1, 2, 3; gas lies whole in its own slot.
        sheet = house(month=1)
        marks = {"power": [reading(0, 0), reading(1, 8)], "gas": [reading(0, 10), reading(1, 14)]}
        told = month_uses(sheet, marks, 0)
        cook = 3 * 20 + 1 * 22
        noon = 2 * 32 + 4 * 130
        self.assertEqual(told, [(0, 2, 2 * 10), (1, 4, cook), (2, 6, noon)])

    def test_numbers_begin_anew_each_month(self):
        sheet = even(price=1, steps=[(3, 10)], month=1)
        marks = {"water": [reading(0, 0), reading(2, 8)]}
        self.assertEqual(month_uses(sheet, marks, 0), [(0, 4, 14)])
        self.assertEqual(month_uses(sheet, marks, 1), [(1, 4, 14)])

    def test_months_ahead_of_and_behind_the_marks(self):
        sheet = even(price=2, month=2)
        marks = {"water": [reading(3, 0), reading(5, 6)]}
        told = [month_uses(sheet, marks, month) for month in range(4)]
        self.assertEqual(told, [[], [(3, 3, 6)], [(4, 3, 6), (5, 3, 6)], [(6, 3, 6), (7, 3, 6)]])

    def test_month_of_one_day(self):
        sheet = even(bands=2, price=5, month=1)
        marks = {"water": [reading(0, 0), reading(400, 800)]}
        self.assertEqual(month_uses(sheet, marks, 0), [(0, 1, 5), (1, 1, 5)])
        self.assertEqual(month_uses(sheet, marks, 400), [(800, 1, 5), (801, 1, 5)])

    def test_month_of_thirty_one_days(self):
        sheet = even(price=5, month=31)
        marks = {"water": [reading(0, 0), reading(400, 400)]}
        self.assertEqual(month_uses(sheet, marks, 0), [(slot, 1, 5) for slot in range(31)])
        self.assertEqual(month_uses(sheet, marks, 11), [(slot, 1, 5) for slot in range(341, 372)])

    def test_great_uses(self):
        sheet = even(price=10 ** 12, steps=[(10 ** 12, 7)], month=31)
        marks = {"water": [(0, 0, 0, 9), (1, 10 ** 9 - 1, 10 ** 9 - 1, 9)]}
        use = 31 * (10 ** 9 - 1)
        self.assertEqual(sum(cost for slot, units, cost in month_uses(sheet, marks, 11)), use * 10 ** 12)
        sheet.steps = [(use - 1, 7)]
        self.assertEqual(sum(cost for slot, units, cost in month_uses(sheet, marks, 11)), use * 10 ** 12 + 7)

    def test_uses_are_the_slots_uses(self):
        for sheet, marks in cases(15, seed=12):
            for slot, use, cost in month_uses(sheet, marks, 1):
                counter = sheet.bands[slot % len(sheet.bands)][1]
                self.assertEqual(use, slot_use(sheet, counter, marks[counter], slot))
                self.assertGreater(use, 0)

    def test_like_the_slow_reckoning(self):
        for sheet, marks in cases(40, seed=13):
            for month in (0, 1, 2, 9):
                if (month + 1) * sheet.month <= 90:
                    self.assertEqual(month_uses(sheet, marks, month), slow_month(sheet, marks, month))


class MonthCostTest(unittest.TestCase):
    def test_standing_alone(self):
        self.assertEqual(month_cost(house(), {"power": [], "gas": []}, 0), 60)
        self.assertEqual(month_cost(even(standing=9, month=1), {"water": []}, 0), 9)
        self.assertEqual(month_cost(even(standing=9, month=31), {"water": []}, 3), 279)

    def test_nothing_at_all(self):
        self.assertEqual(month_cost(even(), {"water": []}, 0), 0)

    def test_units_and_standing(self):
        sheet = even(price=3, steps=[(2, 10), (5, 100)], month=2, standing=4)
        marks = {"water": [reading(0, 0), reading(2, 14)]}
        self.assertEqual(month_cost(sheet, marks, 0), 14 * 3 + 3 * 10 + 9 * 100 + 8)

    def test_several_counters(self):
        sheet = house(month=1)
        marks = {"power": [reading(0, 0), reading(1, 8)], "gas": [reading(0, 10), reading(1, 14)]}
        self.assertEqual(month_cost(sheet, marks, 0), 20 + 82 + 584 + 6)

    def test_months_ahead_of_and_behind_the_marks(self):
        sheet = even(price=2, month=2, standing=1)
        marks = {"water": [reading(3, 0), reading(5, 6)]}
        self.assertEqual([month_cost(sheet, marks, month) for month in range(4)], [2, 8, 14, 14])

    def test_costs_and_standing_sums_come_to_it(self):
        for sheet, marks in cases(30, seed=14):
            for month in (0, 1):
                costs = sum(cost for slot, use, cost in slow_month(sheet, marks, month))
                told = month_cost(sheet, marks, month)
                self.assertEqual(told, costs + sheet.standing * sheet.month)
                costs = sum(cost for slot, use, cost in month_uses(sheet, marks, month))
                self.assertEqual(told, costs + sheet.standing * sheet.month)


class NothingChangedTest(unittest.TestCase):
    def test_asking_changes_neither_sheet_nor_marks(self):
        sheet = house()
        kept = fields_of(sheet)
        marks = {"power": [reading(2, 0), reading(14, 99)], "gas": [reading(1, 5)]}
        before = copy.deepcopy(marks)
        month_uses(sheet, marks, 0)
        month_cost(sheet, marks, 1)
        unit_price(sheet, 4, 9)
        self.assertEqual(marks, before)
        self.assertEqual(list(marks), list(before))
        self.assertEqual(fields_of(sheet), kept)

    def test_told_lists_are_the_askers_own(self):
        sheet = house()
        marks = {"power": [reading(2, 0), reading(14, 99)], "gas": []}
        told = month_uses(sheet, marks, 0)
        kept = list(told)
        cost = month_cost(sheet, marks, 0)
        told.clear()
        self.assertEqual(month_uses(sheet, marks, 0), kept)
        self.assertEqual(month_cost(sheet, marks, 0), cost)

    def test_one_list_of_marks_for_two_counters(self):
        both = [reading(0, 0), reading(4, 40)]
        sheet = house()
        apart = month_uses(sheet, {"power": list(both), "gas": list(both)}, 0)
        self.assertEqual(month_uses(sheet, {"power": both, "gas": both}, 0), apart)
