"""Shares of a total, and plans for bills."""

import random
import unittest

from meterbook.books import Book
from meterbook.sharing import plan, shared
from tests.samples import even


def slow_shared(total, weights):
    whole = sum(weights)
    ahead = [total * sum(weights[:place]) // whole for place in range(len(weights) + 1)]
    return [latter - former for former, latter in zip(ahead, ahead[1:])]


class SharedTest(unittest.TestCase):
    def test_even(self):
        self.assertEqual(shared(12, [1, 1, 1]), [4, 4, 4])
        self.assertEqual(shared(10, [1, 1, 1]), [3, 3, 4])
        self.assertEqual(shared(11, [1, 1, 1]), [3, 4, 4])

    def test_uneven(self):
        self.assertEqual(shared(100, [1, 2, 7]), [10, 20, 70])
        self.assertEqual(shared(7, [3, 1, 2]), [3, 1, 3])

    def test_one_weight(self):
        self.assertEqual(shared(17, [5]), [17])
        self.assertEqual(shared(-17, [5]), [-17])

    def test_nothing_to_share(self):
        self.assertEqual(shared(0, [3, 0, 9]), [0, 0, 0])

    def test_below_nought(self):
        self.assertEqual(shared(-10, [1, 1, 1]), [-4, -3, -3])
        self.assertEqual(shared(-1, [1, 1, 1]), [-1, 0, 0])
        self.assertEqual(shared(-7, [3, 1, 2]), [-4, -1, -2])

    def test_a_total_below_nought_is_not_the_other_one_turned(self):
        self.assertNotEqual(shared(-10, [1, 1, 1]), [-share for share in shared(10, [1, 1, 1])])

    def test_weights_of_nought_get_nothing(self):
        self.assertEqual(shared(10, [0, 1, 0, 2, 0]), [0, 3, 0, 7, 0])
        self.assertEqual(shared(-10, [0, 1, 0, 2, 0]), [0, -4, 0, -6, 0])

    def test_great_numbers(self):
        most = 10 ** 12 - 1
        self.assertEqual(shared(most * most, [most, most]), [most * most // 2, most * most - most * most // 2])
        self.assertEqual(shared(10 ** 30 + 1, [10 ** 12 - 1, 1]), [(10 ** 30 + 1) * most // 10 ** 12, 10 ** 18 + 1])

    def test_sixty_weights(self):
        told = shared(61, [1] * 60)
        self.assertEqual((len(told), sum(told), sorted(set(told))), (60, 61, [1, 2]))
        self.assertEqual(told[-1], 2)

    def test_they_come_to_the_total(self):
        chance = random.Random(31)
        for place in range(400):
            weights = [chance.choice([0, 1, 3, 10 ** 12 - 1]) for k in range(chance.randint(1, 60))]
            weights[chance.randrange(len(weights))] = chance.randint(1, 9)
            total = chance.choice([0, 1, -1, 17, -17, 10 ** 15 + 7, -(10 ** 15) - 7])
            told = shared(total, weights)
            self.assertEqual(told, slow_shared(total, weights))
            self.assertEqual(sum(told), total)
            self.assertTrue(total < 0 or min(told) >= 0)

    def test_handed_in_stays(self):
        weights = [1, 0, 2]
        told = shared(10, weights)
        told.append(3)
        self.assertEqual(weights, [1, 0, 2])
        self.assertEqual(shared(10, weights), [3, 0, 7])


class PlanTest(unittest.TestCase):
    def test_no_totals(self):
        self.assertEqual(plan([], 50), [])
        self.assertEqual(plan([], 0), [])

    def test_one(self):
        self.assertEqual(plan([70], 50), [(70, 50, 20)])

    def test_less_than_twelve(self):
        self.assertEqual(plan([10] * 11, 9), [(110, 99, 11)])

    def test_just_twelve(self):
        self.assertEqual(plan([10] * 12, 9), [(120, 108, 12)])

    def test_thirteen(self):
        self.assertEqual(plan([10] * 13, 9), [(120, 108, 12), (10, 9, 13)])

    def test_just_twenty_four(self):
        self.assertEqual(plan(list(range(24)), 10), [(66, 120, -54), (210, 120, 36)])

    def test_more(self):
        totals = [10] * 12 + [0] * 12 + [-5] * 6
        self.assertEqual(plan(totals, 4), [(120, 48, 72), (0, 48, 24), (-30, 24, -30)])

    def test_no_sum(self):
        self.assertEqual(plan([1, 2, 3], 0), [(6, 0, 6)])

    def test_great_numbers(self):
        most = 10 ** 12 - 1
        self.assertEqual(plan([10 ** 20] * 14, most)[1], (2 * 10 ** 20, 2 * most, 14 * (10 ** 20 - most)))

    def test_rows_are_tuples_in_a_list_of_the_askers_own(self):
        totals = [10] * 13
        told = plan(totals, 9)
        self.assertTrue(type(told) is list and all(type(row) is tuple for row in told))
        told.clear()
        totals.append(1)
        self.assertEqual(plan([10] * 13, 9), [(120, 108, 12), (10, 9, 13)])

    def test_bills_totals(self):
        book = Book(even(price=2, standing=1, month=1))
        book.tell(0, "water", 0, 0)
        book.tell(20, "water", 20, 100)
        totals = [book.bill(20)[4] for month in range(20)]
        told = plan(totals, 10)
        self.assertEqual(told, [(132, 120, 12), (88, 80, 20)])
        self.assertEqual(shared(told[0][0], [1, 2]), [44, 88])
