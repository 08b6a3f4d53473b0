"""Points 6, 14 and 15, and `log_totals` in the interface of doubtwell/certificates.py."""

import inspect
import random
import unittest

from doubtwell import certificates as module
from doubtwell.certificates import log_totals
from doubtwell.errors import InvalidPrice

from helpers import ErrorCase, cost, entry_amount, entry_probed, some_case, some_valid_log

LOG = [("pair", "a", "b", 1, "a", (7, 1)), ("required", "b", 0, (12, 1))]


class Totals(ErrorCase):
    def test_example(self):
        self.assertEqual(log_totals(LOG), (2, 1))

    def test_parameters(self):
        self.assertEqual(str(inspect.signature(log_totals)), "(log, *, prices=None)")
        self.assertEqual(log_totals.__module__, module.__name__)
        self.assertEqual(log_totals(prices={"a": 5}, log=LOG), (6, 1))
        with self.assertRaises(TypeError):
            log_totals(LOG, {"a": 5})

    def test_kinds_of_the_result(self):
        result = log_totals(LOG)
        self.assertIs(type(result), tuple)
        self.assertEqual([type(part) for part in result], [int, int])

    def test_no_entries(self):
        self.assertEqual(log_totals([]), (0, 0))
        self.assertEqual(log_totals([], prices={"a": 1000}), (0, 0))

    def test_the_probed_item_counts(self):
        prices = {"a": 20, "b": 300}
        self.assertEqual(log_totals([("pair", "a", "b", 7, "a", (7, 1))], prices=prices), (20, 7))
        self.assertEqual(log_totals([("pair", "a", "b", 7, "b", (7, 1))], prices=prices), (300, 7))
        self.assertEqual(log_totals([("required", "b", 7, (7, 1))], prices=prices), (300, 7))
        self.assertEqual(log_totals([("required", "c", 7, (7, 1))], prices=prices), (1, 7))

    def test_one_price_for_each_entry(self):
        self.assertEqual(log_totals(LOG + LOG, prices={"a": 5, "b": 2}), (14, 2))

    def test_logs_that_are_not_valid(self):
        log = [("required", "nosuch", -3, (1, 1)), ("pair", "a", "a", 2000, "c", (2, 4))]
        self.assertEqual(log_totals(log, prices={"c": 9}), (10, 1997))

    def test_prices_out_of_range(self):
        for price in (0, -1, 1001, 10 ** 39, -(10 ** 39)):
            self.check_error(InvalidPrice("b"), log_totals, LOG, prices={"b": price})
            self.check_error(InvalidPrice("b"), log_totals, [], prices={"a": 1, "b": price})
        for price in (1, 2, 999, 1000):
            self.assertEqual(log_totals(LOG, prices={"b": price}), (1 + price, 1))

    def test_the_smallest_name_comes_first(self):
        self.check_error(InvalidPrice("a"), log_totals, LOG, prices={"c": 0, "b": 0, "a": 1001})
        self.check_error(InvalidPrice("ab"), log_totals, LOG, prices={"b": 0, "ab": -1, "a": 1})
        self.check_error(InvalidPrice("B"), log_totals, LOG, prices={"b": 0, "a": 0, "B": 0})

    def test_prices_of_items_outside_of_the_log(self):
        self.assertEqual(log_totals(LOG, prices={"x": 5, "Y": 7, "": 1000}), (2, 1))
        self.check_error(InvalidPrice("x"), log_totals, LOG, prices={"x": 0})

    def test_sums(self):
        source = random.Random(141)
        for _ in range(300):
            intervals, queries, values, prices = some_case(source)
            log = some_valid_log(source, intervals, queries, values, prices)
            spent = cost(prices, [entry_probed(entry) for entry in log])
            charge = sum(entry_amount(entry) for entry in log)
            self.assertEqual(self.check_unchanged(log_totals, log, prices=prices), (spent, charge))


if __name__ == "__main__":
    unittest.main()
