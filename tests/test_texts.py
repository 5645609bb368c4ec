"""Texts of sheets and logs, written, read back, and refused row by row."""

import copy
import random
import unittest

from meterbook.errors import BadRow
from meterbook.sheets import Sheet
from meterbook.texts import log_from, log_text, sheet_from, sheet_text
from tests.samples import FIELDS, even, fields_of, house, some_log, some_sheet

HOUSE_ROWS = (
    "week work work work work work rest rest",  # 1
    "special 3 feast",
    "special 9 rest",
    "band night power",  # 4
    "band cook gas",
    "band noon power",
    "rate work night 1 10",  # 7
    "rate work cook 2 20",
    "rate work noon 3 30",
    "rate rest night 0 11",  # 10
    "rate rest cook 5 21",
    "rate rest noon 4 31",
    "rate feast night 7 12",  # 13
    "rate feast cook 1 22",
    "rate feast noon 0 32",
    "step 5 2",  # 16
    "step 8 100",
    "step 20 1",
    "standing 6",  # 19
    "month 10",
    "counter power 4 500",  # 21
    "counter gas 3 90",
)

LEAST_ROWS = (
    "week day day day day day day day",
    "band a water",
    "rate day a 1 1",
    "standing 0",
    "month 10",
    "counter water 5 100",
)

# What is no number by point 15, though Python may take some of it for one.
NO_NUMBERS = ("", "00", "01", "007", "+1", "-1", "-0", "1.0", "1_0", "1e2", "0x1", "a", "1000000000000",
              "0000000000001", "1a", "a1", "NUMBER", "NAME", "None", "True")
NO_NAMES = ("", "A", "Work", "worK", "nine_", "a1", "1", "abcdefghi", "a-b", "a.", "~", "NAME", "NUMBER")


def text_of(rows):
    return "\n".join(rows)


def replaced(place, row, rows=HOUSE_ROWS):
    return text_of(rows[:place - 1] + (row,) + rows[place:])


class SheetTextTest(unittest.TestCase):
    def test_the_house(self):
        self.assertEqual(sheet_text(house()), text_of(HOUSE_ROWS))

    def test_the_least(self):
        self.assertEqual(sheet_text(even()), text_of(LEAST_ROWS))

    def test_special_days_rise_and_their_kinds_come_by_days(self):
        kinds = ("day", "zoo", "ant", "bee")
        sheet = even()
        sheet.special = {30: "bee", 4: "zoo", 200: "day", 11: "ant", 12: "zoo"}
        sheet.weights = {(kind, "a"): 1 for kind in kinds}
        sheet.prices = {(kind, "a"): 2 for kind in kinds}
        rows = sheet_text(sheet).split("\n")
        self.assertEqual(rows[1:6], [
            "special 4 zoo", "special 11 ant", "special 12 zoo", "special 30 bee", "special 200 day",
        ])
        self.assertEqual([row.split(" ")[1] for row in rows if row.startswith("rate")], ["day", "zoo", "ant", "bee"])

    def test_kinds_of_the_week_by_their_first_place(self):
        week = ["sun", "mon", "tue", "sun", "abc", "mon", "sun"]
        kinds = ("sun", "mon", "tue", "abc", "fun")
        sheet = even()
        sheet.week = week
        sheet.special = {1: "fun", 0: "abc"}
        sheet.weights = {(kind, "a"): 1 for kind in sorted(kinds)}
        sheet.prices = dict(sheet.weights)
        rows = sheet_text(sheet).split("\n")
        self.assertEqual([row.split(" ")[1] for row in rows if row.startswith("rate")], list(kinds))

    def test_bands_and_counters_in_order(self):
        sheet = even(bands=4)
        sheet.bands = [("d", "zinc"), ("a", "air"), ("c", "zinc"), ("b", "gas")]
        sheet.figures = {"air": 1, "gas": 2, "zinc": 9}
        sheet.rises = {"air": 10, "gas": 20, "zinc": 90}
        rows = sheet_text(sheet).split("\n")
        self.assertEqual(rows[1:5], ["band d zinc", "band a air", "band c zinc", "band b gas"])
        self.assertEqual([row.split(" ")[2] for row in rows[5:9]], ["d", "a", "c", "b"])
        self.assertEqual(rows[-3:], ["counter zinc 9 90", "counter air 1 10", "counter gas 2 20"])

    def test_great_numbers(self):
        most = 10 ** 12 - 1
        sheet = even(price=most, weight=99, steps=[(1, 0), (most, most)], standing=most, month=31)
        sheet.rises = {"water": most}
        self.assertEqual(sheet_text(sheet).split("\n")[2:], [
            "rate day a 99 999999999999", "step 1 0", "step 999999999999 999999999999",
            "standing 999999999999", "month 31", "counter water 5 999999999999",
        ])
        self.assertEqual(fields_of(sheet_from(sheet_text(sheet))), fields_of(sheet))


class SheetFromTest(unittest.TestCase):
    def test_the_house(self):
        sheet = sheet_from(text_of(HOUSE_ROWS))
        self.assertIsInstance(sheet, Sheet)
        self.assertEqual(fields_of(sheet), fields_of(house()))

    def test_the_least(self):
        self.assertEqual(fields_of(sheet_from(text_of(LEAST_ROWS))), fields_of(even()))

    def test_kinds_of_its_fields(self):
        sheet = sheet_from(text_of(HOUSE_ROWS))
        for name in FIELDS:
            self.assertIs(type(getattr(sheet, name)), type(getattr(house(), name)))
        self.assertTrue(all(type(row) is tuple for row in sheet.bands + sheet.steps))

    def test_there_and_back(self):
        chance = random.Random(41)
        for place in range(100):
            sheet = some_sheet(chance)
            kinds = sheet.week + list(sheet.special.values())
            sheet.weights = {key: value for key, value in sheet.weights.items() if key[0] in kinds}
            sheet.prices = {key: value for key, value in sheet.prices.items() if key[0] in kinds}
            text = sheet_text(sheet)
            self.assertEqual(fields_of(sheet_from(text)), fields_of(sheet))
            self.assertEqual(sheet_text(sheet_from(text)), text)

    def test_edges_that_can_stand(self):
        for place, row in (
            (2, "special 0 feast"), (3, "special 4 rest"), (3, "special 400 rest"), (3, "special 9 feast"),
            (7, "rate work night 0 0"), (7, "rate work night 99 999999999999"),
            (16, "step 1 0"), (17, "step 6 0"), (18, "step 9 0"), (18, "step 999999999999 999999999999"),
            (19, "standing 0"), (19, "standing 999999999999"), (20, "month 1"), (20, "month 31"),
            (21, "counter power 1 1"), (21, "counter power 9 999999999999"),
        ):
            with self.subTest(row):
                text = replaced(place, row)
                self.assertEqual(sheet_text(sheet_from(text)), text)

    def test_names_at_the_edges(self):
        rows = tuple(row.replace("power", "abcdefgh").replace("gas", "z") for row in HOUSE_ROWS)
        self.assertEqual(sheet_text(sheet_from(text_of(rows))), text_of(rows))

    def test_names_like_the_words_of_rows(self):
        rows = tuple(
            row.replace("power", "counter").replace("night", "band").replace("work", "special").replace("rest", "rate")
            for row in HOUSE_ROWS
        )
        self.assertEqual(sheet_text(sheet_from(text_of(rows))), text_of(rows))

    def test_four_bands_and_four_steps(self):
        text = sheet_text(even(bands=4, steps=[(1, 1), (2, 1), (3, 1), (4, 1)]))
        self.assertEqual(sheet_text(sheet_from(text)), text)

    def test_many_special_days(self):
        sheet = even()
        sheet.special = {day: "day" for day in range(401)}
        self.assertEqual(fields_of(sheet_from(sheet_text(sheet))), fields_of(sheet))

    def test_two_readings_of_one_text_share_nothing(self):
        one = sheet_from(text_of(HOUSE_ROWS))
        for name in FIELDS:
            if isinstance(getattr(one, name), (list, dict)):
                getattr(one, name).clear()
        self.assertEqual(fields_of(sheet_from(text_of(HOUSE_ROWS))), fields_of(house()))


class BadRowTest(unittest.TestCase):
    def refuse(self, reader, text, row):
        with self.subTest(text=text, row=row):
            with self.assertRaises(BadRow) as caught:
                reader(text)
            self.assertIs(type(caught.exception), BadRow)
            self.assertEqual(caught.exception.row, row)


class BadSheetTest(BadRowTest):
    def refuse_row(self, place, row):
        self.refuse(sheet_from, replaced(place, row), place)

    def test_empty(self):
        self.refuse(sheet_from, "", 1)
        self.refuse(sheet_from, "\n", 1)
        self.refuse(sheet_from, " ", 1)

    def test_cut_behind_each_row(self):
        for count in range(1, len(HOUSE_ROWS)):
            self.refuse(sheet_from, text_of(HOUSE_ROWS[:count]), count + 1)
        for count in range(1, len(LEAST_ROWS)):
            self.refuse(sheet_from, text_of(LEAST_ROWS[:count]), count + 1)

    def test_an_empty_row_in_each_place(self):
        for place in range(1, len(HOUSE_ROWS) + 2):
            rows = HOUSE_ROWS[:place - 1] + ("",) + HOUSE_ROWS[place - 1:]
            self.refuse(sheet_from, text_of(rows), place)

    def test_a_line_feed_behind_the_last(self):
        self.refuse(sheet_from, text_of(HOUSE_ROWS) + "\n", 23)
        self.refuse(sheet_from, text_of(HOUSE_ROWS) + "\n\n", 23)

    def test_each_row_twice(self):
        for place in range(1, len(HOUSE_ROWS) + 1):
            rows = HOUSE_ROWS[:place] + HOUSE_ROWS[place - 1:]
            self.refuse(sheet_from, text_of(rows), place + 1)

    def test_each_row_missing(self):
        # Where a band or a new kind is missing, the first of its rates is the row that can not stand.
        wanted = {place: place for place in range(1, len(HOUSE_ROWS) + 1)}
        wanted.update({2: 12, 4: 6, 5: 7, 6: 8})
        for free in (3, 16, 17, 18):
            wanted.pop(free)
            text = text_of(HOUSE_ROWS[:free - 1] + HOUSE_ROWS[free:])
            self.assertEqual(sheet_text(sheet_from(text)), text)
        for place, row in wanted.items():
            self.refuse(sheet_from, text_of(HOUSE_ROWS[:place - 1] + HOUSE_ROWS[place:]), row)

    def test_neighbours_the_other_way_about(self):
        wanted = {place: place for place in range(1, len(HOUSE_ROWS))}
        wanted.update({2: 3, 3: 4, 4: 7, 5: 8, 6: 7, 16: 17, 17: 18, 18: 19})
        for place, row in wanted.items():
            rows = list(HOUSE_ROWS)
            rows[place - 1], rows[place] = rows[place], rows[place - 1]
            self.refuse(sheet_from, text_of(rows), row)

    def test_blanks(self):
        for place, row in enumerate(HOUSE_ROWS, start=1):
            self.refuse_row(place, row + " ")
            self.refuse_row(place, " " + row)
            self.refuse_row(place, row.replace(" ", "  ", 1))
            self.refuse_row(place, " ".join(row.split(" ")[:-1]))
            self.refuse_row(place, row.split(" ")[0])
            self.refuse_row(place, row + " 1")
            self.refuse_row(place, row + " a")

    def test_words(self):
        for place, row in enumerate(HOUSE_ROWS, start=1):
            first, blank, rest = row.partition(" ")
            self.refuse_row(place, f"{first.upper()} {rest}")
            self.refuse_row(place, f"{first}s {rest}")
            self.refuse_row(place, f"nothing {rest}")
            self.refuse_row(place, rest)
            self.refuse_row(place, "~" + row)

    def test_numbers(self):
        for number in NO_NUMBERS:
            self.refuse_row(2, f"special {number} feast")
            self.refuse_row(7, f"rate work night {number} 10")
            self.refuse_row(7, f"rate work night 1 {number}")
            self.refuse_row(16, f"step {number} 2")
            self.refuse_row(16, f"step 5 {number}")
            self.refuse_row(19, f"standing {number}")
            self.refuse_row(20, f"month {number}")
            self.refuse_row(21, f"counter power {number} 500")
            self.refuse_row(21, f"counter power 4 {number}")

    def test_names(self):
        for name in NO_NAMES:
            for place in range(7):
                kinds = ["work"] * 7
                kinds[place] = name
                self.refuse_row(1, "week " + " ".join(kinds))
            self.refuse_row(2, f"special 3 {name}")
            self.refuse_row(4, f"band {name} power")
            self.refuse_row(4, f"band night {name}")
            self.refuse_row(7, f"rate {name} night 1 10")
            self.refuse_row(7, f"rate work {name} 1 10")
            self.refuse_row(21, f"counter {name} 4 500")

    def test_a_week_of_six_and_of_eight(self):
        self.refuse_row(1, "week work work work work work rest")
        self.refuse_row(1, "week work work work work work rest rest rest")

    def test_special_days(self):
        for place, row in ((2, "special 401 feast"), (3, "special 401 rest"), (3, "special 3 rest"),
                           (3, "special 2 rest"), (3, "special 0 rest"), (2, "special feast 3")):
            self.refuse_row(place, row)
        self.refuse(sheet_from, replaced(2, "special 9 feast"), 3)
        self.refuse(sheet_from, replaced(2, "special 10 feast"), 3)

    def test_bands(self):
        self.refuse_row(5, "band night gas")
        self.refuse_row(6, "band cook power")
        self.refuse_row(6, "band night power")

    def test_no_band(self):
        self.refuse(sheet_from, text_of((LEAST_ROWS[0], "standing 0", "month 10")), 2)
        self.refuse(sheet_from, text_of((LEAST_ROWS[0], "step 1 1", "standing 0", "month 10")), 2)
        self.refuse(sheet_from, text_of((LEAST_ROWS[0], "special 1 day", "standing 0", "month 10")), 3)

    def test_five_bands(self):
        rows = sheet_text(even(bands=4)).split("\n")
        self.refuse(sheet_from, text_of(rows[:5] + ["band e water"] + rows[5:]), 6)

    def test_rates_of_other_kinds_and_bands(self):
        self.refuse_row(7, "rate rest night 1 10")
        self.refuse_row(7, "rate work cook 1 10")
        self.refuse_row(13, "rate rest night 1 10")
        self.refuse_row(16, "rate feast night 1 10")
        self.refuse_row(16, "rate more night 1 10")

    def test_weights(self):
        self.refuse_row(7, "rate work night 100 10")
        self.refuse_row(9, "rate work noon 999999999999 10")

    def zeroed(self, *places):
        rows = list(HOUSE_ROWS)
        for place in places:
            words = rows[place - 1].split(" ")
            words[3] = "0"
            rows[place - 1] = " ".join(words)
        return rows

    def test_no_weight_above_nought(self):
        for places, row in (
            ((8,), 9), ((7, 9), 9), ((7, 8, 9), 9), ((11,), 12), ((12,), 12), ((11, 12), 12),
            ((13,), 15), ((14,), 15), ((8, 11, 14), 9), ((11, 14), 12),
        ):
            self.refuse(sheet_from, text_of(self.zeroed(*places)), row)
        for places in ((7,), (9,)):
            text = text_of(self.zeroed(*places))
            self.assertEqual(sheet_text(sheet_from(text)), text)

    def test_no_weight_above_nought_beside_other_faults(self):
        rows = self.zeroed(11)
        self.refuse(sheet_from, replaced(10, "rate rest night 0 x", tuple(rows)), 10)
        self.refuse(sheet_from, replaced(11, "rate rest cook 0 x", tuple(rows)), 11)
        self.refuse(sheet_from, replaced(12, "rate rest noon 4 x", tuple(rows)), 12)
        self.refuse(sheet_from, replaced(13, "rate feast night 7 x", tuple(rows)), 12)
        self.refuse(sheet_from, text_of(rows[:11]), 12)
        self.refuse(sheet_from, text_of(rows[:12]), 12)

    def test_steps(self):
        self.refuse_row(16, "step 0 2")
        self.refuse_row(17, "step 5 100")
        self.refuse_row(17, "step 4 100")
        self.refuse_row(18, "step 8 1")
        self.refuse_row(18, "step 0 1")

    def test_five_steps(self):
        rows = HOUSE_ROWS[:18] + ("step 21 0", "step 22 0") + HOUSE_ROWS[18:]
        self.refuse(sheet_from, text_of(rows), 20)
        rows = HOUSE_ROWS[:18] + ("step 21 0",) + HOUSE_ROWS[18:]
        self.assertEqual(sheet_text(sheet_from(text_of(rows))), text_of(rows))

    def test_months(self):
        for number in ("0", "32", "400"):
            self.refuse_row(20, f"month {number}")

    def test_counters(self):
        for row in ("counter power 0 500", "counter power 10 500", "counter power 4 0", "counter air 4 500",
                    "counter gas 3 90"):
            self.refuse_row(21, row)
        self.refuse_row(22, "counter power 4 500")
        self.refuse_row(22, "counter noon 3 90")

    def test_a_counter_too_many(self):
        self.refuse(sheet_from, text_of(HOUSE_ROWS + ("counter air 3 90",)), 23)
        self.refuse(sheet_from, text_of(HOUSE_ROWS + ("anything",)), 23)

    def test_the_first_of_several(self):
        rows = list(HOUSE_ROWS)
        for place in reversed(range(len(rows))):
            rows[place] = rows[place] + " 1"
            self.refuse(sheet_from, text_of(rows), place + 1)


LOG = [
    ("tell", 0, "power", 0, 5),
    ("change", 3, "gas", 2, 17, 0, 4),
    ("wrong", 3, "power", 0),
    ("bill", 10),
]
LOG_ROWS = ("0 tell power 0 5", "3 change gas 2 17 0 4", "3 wrong power 0", "10 bill")


class LogTextTest(unittest.TestCase):
    def test_no_deed(self):
        self.assertEqual(log_text([]), "")
        self.assertEqual(log_from(""), [])

    def test_each_kind_of_deed(self):
        for deed, row in zip(LOG, LOG_ROWS):
            self.assertEqual(log_text([deed]), row)
            self.assertEqual(log_from(row), [deed])

    def test_all_together(self):
        self.assertEqual(log_text(LOG), text_of(LOG_ROWS))
        self.assertEqual(log_from(text_of(LOG_ROWS)), LOG)

    def test_kinds_of_what_is_told(self):
        told = log_from(text_of(LOG_ROWS))
        self.assertIs(type(told), list)
        self.assertTrue(all(type(deed) is tuple for deed in told))

    def test_any_numbers(self):
        most = 10 ** 12 - 1
        log = [
            ("tell", most, "a", most, most), ("change", 0, "abcdefgh", 0, 0, most, most),
            ("wrong", most, "z", 401), ("bill", most), ("bill", 0), ("change", 1, "a", 1, 1, 1, 0),
        ]
        self.assertEqual(log_from(log_text(log)), log)
        self.assertEqual(log_text(log).split("\n")[0], "999999999999 tell a 999999999999 999999999999")

    def test_counters_called_like_deeds(self):
        log = [("tell", 1, "bill", 2, 3), ("wrong", 1, "tell", 2), ("change", 1, "change", 2, 3, 4, 5)]
        self.assertEqual(log_from(log_text(log)), log)

    def test_days_need_not_rise(self):
        self.assertEqual(log_from("5 bill\n4 bill"), [("bill", 5), ("bill", 4)])

    def test_sixty_rows(self):
        log = [("bill", day) for day in range(60)]
        self.assertEqual(log_from(log_text(log)), log)

    def test_there_and_back(self):
        chance = random.Random(42)
        for place in range(50):
            log = some_log(chance, some_sheet(chance), count=chance.randint(0, 60))
            self.assertEqual(log_from(log_text(log)), log)

    def test_handed_in_stays(self):
        log = copy.deepcopy(LOG)
        log_text(log)
        self.assertEqual(log, LOG)


class BadLogTest(BadRowTest):
    def refuse_row(self, row):
        for place in range(1, 6):
            rows = LOG_ROWS[:place - 1] + (row,) + LOG_ROWS[place - 1:]
            self.refuse(log_from, text_of(rows), place)

    def test_empty_rows(self):
        self.refuse_row("")
        self.refuse(log_from, "\n", 1)
        self.refuse(log_from, "10 bill\n", 2)
        self.refuse(log_from, "\n10 bill", 1)
        self.refuse(log_from, " ", 1)

    def test_blanks(self):
        for row in LOG_ROWS:
            self.refuse_row(row + " ")
            self.refuse_row(" " + row)
            for place in range(1, len(row.split(" "))):
                words = row.split(" ")
                self.refuse_row(" ".join(words[:place]) + "  " + " ".join(words[place:]))

    def test_words_missing_and_one_too_many(self):
        for row in LOG_ROWS:
            words = row.split(" ")
            for place in range(len(words)):
                self.refuse_row(" ".join(words[:place] + words[place + 1:]))
            self.refuse_row(row + " 1")
            self.refuse_row(row + " a")

    def test_other_deeds(self):
        for row in ("3 told power 0 5", "3 Tell power 0 5", "3 BILL", "3 bills", "3 none", "bill 3", "tell 3 power 0 5",
                    "tell", "3", "3 report", "NUMBER bill", "3 NUMBER"):
            self.refuse_row(row)

    def test_numbers(self):
        for number in NO_NUMBERS:
            for row in LOG_ROWS:
                words = row.split(" ")
                for place, word in enumerate(words):
                    if word.isdigit():
                        self.refuse_row(" ".join(words[:place] + [number] + words[place + 1:]))

    def test_names(self):
        for name in NO_NAMES:
            self.refuse_row(f"3 tell {name} 0 5")
            self.refuse_row(f"3 change {name} 2 17 0 4")
            self.refuse_row(f"3 wrong {name} 0")

    def test_sixty_one_rows(self):
        rows = [f"{day} bill" for day in range(61)]
        self.refuse(log_from, text_of(rows), 61)
        self.refuse(log_from, text_of(rows + ["more"]), 61)
        self.refuse(log_from, text_of(rows[:60] + [""]), 61)

    def test_a_fault_ahead_of_the_sixty_first(self):
        rows = [f"{day} bill" for day in range(61)]
        rows[59] = "bill"
        self.refuse(log_from, text_of(rows), 60)

    def test_the_first_of_several(self):
        self.refuse(log_from, "1 bill\n2 bil\n3 bill\n4 bil", 2)
