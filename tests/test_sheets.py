import copy
import unittest

from meterbook.sheets import Sheet, counters, kind_of, sheet_of, weight
from tests.samples import FIELDS, cases, even, fields_of, house, house_fields, slow_weight


class SheetOfTest(unittest.TestCase):
    def test_fields_are_those_handed_in(self):
        fields = house_fields()
        sheet = sheet_of(*[fields[name] for name in FIELDS])
        self.assertIsInstance(sheet, Sheet)
        for name in FIELDS:
            with self.subTest(name):
                self.assertEqual(getattr(sheet, name), fields[name])
                self.assertIs(type(getattr(sheet, name)), type(fields[name]))

    def test_fields_by_name(self):
        sheet = sheet_of(**house_fields())
        self.assertEqual(fields_of(sheet), [house_fields()[name] for name in FIELDS])

    def test_rows_of_bands_and_steps_are_tuples(self):
        sheet = house()
        self.assertTrue(all(type(row) is tuple for row in sheet.bands + sheet.steps))

    def test_order_of_dicts_is_kept(self):
        sheet = house(special={9: "rest", 3: "feast"})
        self.assertEqual(list(sheet.special), [9, 3])

    def test_smallest_sheet(self):
        sheet = even(month=1)
        self.assertEqual(sheet.bands, [("a", "water")])
        self.assertEqual((sheet.special, sheet.steps, sheet.standing, sheet.month), ({}, [], 0, 1))

    def test_nothing_handed_in_is_changed(self):
        fields = house_fields()
        sheet_of(*[fields[name] for name in FIELDS])
        self.assertEqual(fields, house_fields())

    def test_what_was_handed_in_may_be_changed_afterwards(self):
        fields = house_fields()
        sheet = sheet_of(*[fields[name] for name in FIELDS])
        for name in FIELDS:
            if isinstance(fields[name], (list, dict)):
                fields[name].clear()
        self.assertEqual(fields_of(sheet), [house_fields()[name] for name in FIELDS])
        self.assertEqual(kind_of(sheet, 3), "feast")
        self.assertEqual(counters(sheet), ["power", "gas"])
        self.assertEqual(weight(sheet, "power", 0, 3), 4)

    def test_changing_one_sheet_changes_neither_what_was_handed_in_nor_another(self):
        fields = house_fields()
        one = sheet_of(*[fields[name] for name in FIELDS])
        other = sheet_of(*[fields[name] for name in FIELDS])
        for name in FIELDS:
            if isinstance(fields[name], (list, dict)):
                getattr(one, name).clear()
        self.assertEqual(fields, house_fields())
        self.assertEqual(fields_of(other), [fields[name] for name in FIELDS])

    def test_a_sheets_fields_handed_in_again_make_a_sheet_of_its_own(self):
        one = house()
        other = sheet_of(*[getattr(one, name) for name in FIELDS])
        for name in FIELDS:
            if isinstance(getattr(one, name), (list, dict)):
                self.assertIsNot(getattr(one, name), getattr(other, name))
        one.week[0] = "feast"
        one.weights[("work", "night")] = 50
        self.assertEqual(kind_of(other, 0), "work")
        self.assertEqual(weight(other, "power", 0, 1), 1)

    def test_weights_and_prices_handed_in_as_one_dict_are_kept_apart(self):
        both = house_fields()["weights"]
        sheet = house(weights=both, prices=both)
        self.assertIsNot(sheet.weights, sheet.prices)


    def test_nothing_is_refused_somewhat_beyond_the_bounds(self):
        sheet = house(
            special={401: "feast", 1000: "rest"},
            bands=[("night", "power"), ("cook", "gas"), ("noon", "power"), ("nighta", "gas"), ("nightb", "gas")],
            steps=[(units, 1) for units in range(1, 7)],
            month=40,
            figures={"power": 12, "gas": 10},
        )
        self.assertEqual((sheet.month, len(sheet.bands), len(sheet.steps)), (40, 5, 6))
        self.assertEqual(kind_of(sheet, 401), "feast")
        self.assertEqual(weight(even(weight=1000), "water", 0, 450), 450000)


class KindTest(unittest.TestCase):
    def test_week_days(self):
        sheet = even()
        sheet.week = ["mo", "tu", "we", "th", "fr", "sa", "su"]
        told = [kind_of(sheet, day) for day in range(15)]
        self.assertEqual(told, sheet.week + sheet.week + ["mo"])
        self.assertEqual(kind_of(sheet, 400), "tu")

    def test_special_days_come_ahead_of_week_days(self):
        sheet = house(special={0: "feast", 3: "feast", 9: "rest", 400: "rest"})
        self.assertEqual(kind_of(sheet, 0), "feast")
        self.assertEqual(kind_of(sheet, 3), "feast")
        self.assertEqual(kind_of(sheet, 9), "rest")
        self.assertEqual(kind_of(sheet, 400), "rest")

    def test_a_special_day_is_one_day_only(self):
        sheet = house()
        self.assertEqual([kind_of(sheet, day) for day in (2, 4, 10, 16)], ["work"] * 4)
        self.assertEqual([kind_of(sheet, day) for day in (5, 6, 12, 13)], ["rest"] * 4)


class CountersTest(unittest.TestCase):
    def test_each_once_in_the_order_of_their_first_bands(self):
        bands = [("a", "water"), ("b", "gas"), ("c", "water"), ("d", "air")]
        self.assertEqual(counters(house(bands=bands)), ["water", "gas", "air"])

    def test_not_by_name_and_not_by_last_band(self):
        bands = [("d", "zinc"), ("c", "air"), ("b", "air"), ("a", "zinc")]
        self.assertEqual(counters(house(bands=bands)), ["zinc", "air"])

    def test_order_is_not_that_of_the_figures(self):
        self.assertEqual(counters(house(figures={"gas": 3, "power": 4})), ["power", "gas"])

    def test_one_band(self):
        self.assertEqual(counters(even()), ["water"])

    def test_told_lists_are_the_askers_own(self):
        sheet = house()
        told = counters(sheet)
        told.append("more")
        told[0] = "less"
        self.assertEqual(counters(sheet), ["power", "gas"])
        self.assertIsNot(counters(sheet), counters(sheet))


class WeightTest(unittest.TestCase):
    def test_single_slots(self):
        sheet = house()
        self.assertEqual([weight(sheet, "power", slot, slot + 1) for slot in range(3)], [1, 0, 3])
        self.assertEqual([weight(sheet, "gas", slot, slot + 1) for slot in range(3)], [0, 2, 0])

    def test_slots_of_special_days(self):
        sheet = house()
        self.assertEqual([weight(sheet, "power", slot, slot + 1) for slot in range(9, 12)], [7, 0, 0])
        self.assertEqual([weight(sheet, "power", slot, slot + 1) for slot in range(27, 30)], [0, 0, 4])

    def test_no_stretch(self):
        sheet = house()
        for slot in (0, 1, 3, 1203):
            self.assertEqual(weight(sheet, "power", slot, slot), 0)

    def test_the_other_way_about(self):
        sheet = house()
        self.assertEqual(weight(sheet, "power", 1, 0), 0)
        self.assertEqual(weight(sheet, "power", 3, 0), 0)
        self.assertEqual(weight(sheet, "power", 30, 4), 0)
        self.assertEqual(weight(sheet, "gas", 1203, 0), 0)

    def test_one_day(self):
        sheet = house()
        self.assertEqual(weight(sheet, "power", 0, 3), 4)
        self.assertEqual(weight(sheet, "gas", 0, 3), 2)
        self.assertEqual(weight(sheet, "power", 9, 12), 7)

    def test_end_is_not_weighed(self):
        sheet = house()
        self.assertEqual(weight(sheet, "power", 0, 2), 1)
        self.assertEqual(weight(sheet, "power", 1, 3), 3)

    def test_parts_of_two_days(self):
        self.assertEqual(weight(house(), "power", 2, 4), 4)

    def test_many_days(self):
        # Ten days: six of work at 4, days 5, 6 and 9 of rest at 4, day 3 a feast at 7.
        self.assertEqual(weight(house(), "power", 0, 30), 6 * 4 + 3 * 4 + 7)
        self.assertEqual(weight(house(), "gas", 0, 30), 6 * 2 + 3 * 5 + 1)

    def test_all_days(self):
        self.assertEqual(weight(even(bands=4, weight=99), "water", 0, 401 * 4), 401 * 4 * 99)

    def test_begin_within_the_stretch_splits_it(self):
        sheet = house()
        for middle in range(31):
            parts = weight(sheet, "power", 0, middle) + weight(sheet, "power", middle, 30)
            self.assertEqual(parts, weight(sheet, "power", 0, 30))

    def test_like_the_slow_reckoning(self):
        for sheet, marks in cases(20):
            for counter in counters(sheet):
                for begin, end in ((0, 1), (0, 50), (7, 31), (13, 190), (40, 39)):
                    self.assertEqual(weight(sheet, counter, begin, end), slow_weight(sheet, counter, begin, end))


class NothingChangedTest(unittest.TestCase):
    def test_asking_changes_no_sheet(self):
        sheet = house()
        kept = copy.deepcopy(fields_of(sheet))
        kind_of(sheet, 3)
        kind_of(sheet, 11)
        counters(sheet)
        weight(sheet, "gas", 0, 40)
        self.assertEqual(fields_of(sheet), kept)
