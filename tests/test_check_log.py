"""Points 13, 14 and 15, and `check_log` in the interface of doubtwell/certificates.py."""

import inspect
import random
import unittest

from doubtwell import certificates as module
from doubtwell.certificates import check_log, log_totals
from doubtwell.errors import InvalidFraction, InvalidIntervals, InvalidPrice, InvalidQuery, UnknownItem
from doubtwell.probing import resolve

from helpers import (
    NOT_FRACTIONS,
    ErrorCase,
    changed_log,
    cheapest_price,
    cost,
    entry_amount,
    entry_probed,
    great_maps,
    map_intervals,
    map_log,
    map_query,
    names_of,
    rows,
    rule_check_log,
    some_case,
    some_valid_log,
    whole,
)

ONE = rows(a=(0, 2))
ABOVE = [("above", ("a",), (1, 1))]
TWO = rows(a=(0, 10), b=(5, 15))
COMPARE = [("compare", "a", "b")]
PAIR = ("pair", "a", "b", 1, "a", (7, 1))
REST = ("required", "b", 0, (12, 1))

# A first step that is always valid, so that the second entry is the first error.
THREE = rows(a=(0, 10), b=(5, 15), z=(0, 2))
BOTH = COMPARE + [("above", ("z",), (1, 1))]
START = ("required", "z", 1, (1, 1))


class LogCase(ErrorCase):
    def check_code(self, intervals, queries, log, code, prices=None):
        """The first error of the last entry has this code, at index 0 and behind a valid entry."""
        self.assertEqual(check_log(intervals, queries, log, prices=prices), (len(log) - 1, code))
        later = intervals + rows(z=(0, 2))
        asked = queries + BOTH[1:]
        self.assertEqual(check_log(later, asked, [START] + log, prices=prices), (len(log), code))


class Interface(LogCase):
    def test_examples(self):
        self.assertEqual(check_log(ONE, ABOVE, [("required", "a", 0, (1, 1))]), (0, "price"))
        self.assertIsNone(check_log(ONE, ABOVE, [("required", "a", 1, (1, 1))]))

    def test_parameters(self):
        self.assertEqual(str(inspect.signature(check_log)), "(intervals, queries, log, *, prices=None)")
        self.assertEqual(check_log.__module__, module.__name__)
        self.assertIsNone(check_log(prices={"a": 1}, log=[PAIR, REST], queries=COMPARE, intervals=TWO))
        with self.assertRaises(TypeError):
            check_log(TWO, COMPARE, [PAIR, REST], {"a": 1})

    def test_kinds_of_the_result(self):
        result = check_log(TWO, COMPARE, [PAIR])
        self.assertIs(type(result), tuple)
        self.assertEqual([type(part) for part in result], [int, str])


class Codes(LogCase):
    def test_shape(self):
        for entry in [
            (),
            ("required",),
            ("pair",),
            ("required", "a", 1),
            ("required", "a", 1, (1, 1), (1, 1)),
            ("required", "a", "b", 1, "a", (7, 1)),
            ("pair", "a", 1, (7, 1)),
            ("pair", "a", "b", 1, "a"),
            ("pair", "a", "b", 1, "a", (7, 1), 5),
            ("Pair", "a", "b", 1, "a", (7, 1)),
            ("requires", "a", 1, (7, 1)),
            ("", "a", 1, (7, 1)),
            ("a", "required", 1, (7, 1)),
        ]:
            self.check_code(TWO, COMPARE, [entry], "shape")

    def test_equal_names(self):
        self.check_code(TWO, COMPARE, [("pair", "a", "a", 1, "a", (7, 1))], "name")

    def test_the_probed_name(self):
        intervals = rows(a=(0, 10), b=(5, 15), c=(6, 14))
        queries = [("sort", ("a", "b", "c"))]
        for name in ("c", "d", ""):
            self.check_code(intervals, queries, [("pair", "a", "b", 1, name, (7, 1))], "name")

    def test_missing_items(self):
        for name in ("c", "", "A", "aa", "abcdefgh"):
            self.check_code(TWO, COMPARE, [("required", name, 1, (7, 1))], "name")
            self.check_code(TWO, COMPARE, [("pair", name, "b", 1, "b", (7, 1))], "name")
            self.check_code(TWO, COMPARE, [("pair", "a", name, 1, "a", (7, 1))], "name")
            self.check_code(TWO, COMPARE, [("pair", "a", name, 1, name, (7, 1))], "name")

    def test_known_items(self):
        intervals = rows(a=(0, 10), b=7)
        self.check_code(intervals, COMPARE, [("required", "b", 1, (7, 1))], "name")
        self.check_code(intervals, COMPARE, [("pair", "a", "b", 1, "a", (7, 1))], "name")
        self.check_code(intervals, COMPARE, [("pair", "b", "a", 1, "a", (7, 1))], "name")

    def test_items_that_were_probed(self):
        self.check_code(TWO, COMPARE, [PAIR, ("required", "a", 0, (7, 1))], "name")
        self.check_code(TWO, COMPARE, [PAIR, ("pair", "a", "b", 0, "b", (12, 1))], "name")
        self.check_code(TWO, COMPARE, [PAIR, REST, REST], "name")

    def test_witness_of_required_entries(self):
        self.check_code(TWO, COMPARE, [("required", "a", 1, (7, 1))], "witness")
        self.check_code(rows(a=(0, 5), b=(5, 15)), COMPARE, [("required", "a", 1, (3, 1))], "witness")
        self.check_code(TWO, [], [("required", "a", 1, (7, 1))], "witness")
        # The value of the first probe decides whether the other item is required.
        self.check_code(TWO, COMPARE, [("pair", "a", "b", 1, "a", (5, 1)), REST], "witness")
        self.check_code(TWO, [("above", ("a",), (6, 1))], [("required", "b", 1, (7, 1))], "witness")

    def test_witness_of_pair_entries(self):
        self.check_code(rows(a=(0, 5), b=(5, 15)), COMPARE, [("pair", "a", "b", 1, "a", (3, 1))], "witness")
        self.check_code(TWO, [("above", ("a", "b"), (7, 1))], [PAIR], "witness")
        intervals = rows(a=(0, 10), b=(5, 15), c=(6, 14))
        self.check_code(intervals, [("min", ("a", "b", "c"))], [("pair", "b", "c", 1, "b", (7, 1))], "witness")
        self.check_code(intervals, [("max", ("a", "b", "c"))], [("pair", "a", "c", 1, "a", (7, 1))], "witness")
        self.check_code(intervals, COMPARE, [("pair", "a", "c", 1, "a", (7, 1))], "witness")

    def test_amount(self):
        for amount in (-1, -1000, 2, 1000, 10 ** 39, -(10 ** 39)):
            self.check_code(ONE, ABOVE, [("required", "a", amount, (1, 1))], "amount")
            self.check_code(TWO, COMPARE, [("pair", "a", "b", amount, "a", (7, 1))], "amount")
        self.check_code(ONE, ABOVE, [("required", "a", 8, (1, 1))], "amount", {"a": 7})

    def test_amount_of_either_item_of_a_pair(self):
        for prices in ({"a": 3, "b": 2}, {"a": 2, "b": 3}):
            for probed in ("a", "b"):
                self.check_code(TWO, COMPARE, [("pair", "a", "b", 3, probed, (7, 1))], "amount", prices)

    def test_amount_with_earlier_charges(self):
        self.check_code(TWO, COMPARE, [PAIR, ("required", "b", 1, (12, 1))], "amount")
        first = ("pair", "a", "b", 2, "a", (7, 1))
        self.check_code(TWO, COMPARE, [first, ("required", "b", 4, (12, 1))], "amount", {"a": 2, "b": 5})
        self.assertIsNone(check_log(TWO, COMPARE, [first, ("required", "b", 3, (12, 1))], prices={"a": 2, "b": 5}))

    def test_price(self):
        self.check_code(ONE, ABOVE, [("required", "a", 0, (1, 1))], "price")
        self.check_code(ONE, ABOVE, [("required", "a", 6, (1, 1))], "price", {"a": 7})
        self.check_code(TWO, COMPARE, [("pair", "a", "b", 0, "a", (7, 1))], "price")
        self.check_code(TWO, COMPARE, [("pair", "a", "b", 1, "a", (7, 1))], "price", {"a": 2})
        self.check_code(TWO, COMPARE, [("pair", "a", "b", 2, "b", (7, 1))], "price", {"a": 2, "b": 5})
        first = ("pair", "a", "b", 2, "a", (7, 1))
        self.check_code(TWO, COMPARE, [first, ("required", "b", 2, (12, 1))], "price", {"a": 2, "b": 5})

    def test_value(self):
        for value in [(0, 1), (2, 1), (-1, 1), (3, 1), (10 ** 39, 1)]:
            self.check_code(ONE, ABOVE, [("required", "a", 1, value)], "value")
        for probed, value in [("a", 0), ("a", 10), ("a", 12), ("b", 5), ("b", 15), ("b", 2)]:
            self.check_code(TWO, COMPARE, [("pair", "a", "b", 1, probed, whole(value))], "value")

    def test_uncertain(self):
        self.assertEqual(check_log(TWO, COMPARE, []), (0, "uncertain"))
        self.assertEqual(check_log(TWO, COMPARE, [PAIR]), (1, "uncertain"))
        self.assertEqual(check_log(THREE, BOTH, [START, PAIR]), (2, "uncertain"))
        self.assertEqual(check_log(THREE, BOTH, [PAIR, REST]), (2, "uncertain"))

    def test_nothing_to_do(self):
        self.assertIsNone(check_log([], [], []))
        self.assertIsNone(check_log(TWO, [], []))
        self.assertIsNone(check_log(TWO, [("min", ("a",))], []))


class TwoErrors(LogCase):
    """The codes are checked in the order of the list, and the entries from index 0."""

    def test_codes_of_one_entry(self):
        bad = (99, 1)
        self.check_code(TWO, COMPARE, [("pair", "a", "a", -1, "c")], "shape")
        self.check_code(TWO, COMPARE, [("pair", "a", "a", -1, "a", bad)], "name")
        self.check_code(TWO, COMPARE, [("required", "c", -1, bad)], "name")
        self.check_code(TWO, COMPARE, [("required", "a", -1, bad)], "witness")
        self.check_code(TWO, COMPARE, [("required", "a", 0, bad)], "witness")
        self.check_code(TWO, COMPARE, [("pair", "a", "b", -1, "a", bad)], "amount")
        self.check_code(TWO, COMPARE, [("pair", "a", "b", 2, "b", (7, 1))], "amount", {"a": 1, "b": 3})
        self.check_code(TWO, COMPARE, [("pair", "a", "b", 0, "a", bad)], "price")

    def test_the_first_entry_decides(self):
        entries = {
            "shape": (),
            "name": ("required", "c", 1, (7, 1)),
            "witness": ("required", "a", 1, (7, 1)),
            "amount": ("pair", "a", "b", 2, "a", (7, 1)),
            "price": ("pair", "a", "b", 0, "a", (7, 1)),
            "value": ("pair", "a", "b", 1, "a", (10, 1)),
        }
        for code, entry in entries.items():
            for other in entries.values():
                self.assertEqual(check_log(TWO, COMPARE, [entry, other]), (0, code))
                self.assertEqual(check_log(THREE, BOTH, [START, entry, other]), (1, code))

    def test_values_that_are_not_fractions(self):
        for value in NOT_FRACTIONS:
            self.check_error(InvalidFraction(), check_log, TWO, COMPARE, [("pair", "a", "b", 1, "a", value)])
            self.check_error(InvalidFraction(), check_log, TWO, COMPARE, [PAIR, ("required", "b", 0, value)])

    def test_other_codes_come_before_the_fraction(self):
        for value in [(2, 4), (1, 0)]:
            self.check_code(TWO, COMPARE, [("pair", "a", "b", value)], "shape")
            self.check_code(TWO, COMPARE, [("required", "c", 1, value)], "name")
            self.check_code(TWO, COMPARE, [("required", "a", 1, value)], "witness")
            self.check_code(TWO, COMPARE, [("pair", "a", "b", 2, "a", value)], "amount")
            self.check_code(TWO, COMPARE, [("pair", "a", "b", 0, "a", value)], "price")
            self.assertEqual(check_log(TWO, COMPARE, [(), ("pair", "a", "b", 1, "a", value)]), (0, "shape"))


class OtherOrders(LogCase):
    def test_pairs_with_the_greater_name_first(self):
        self.assertIsNone(check_log(TWO, COMPARE, [("pair", "b", "a", 1, "b", (12, 1))]))
        self.assertIsNone(check_log(TWO, COMPARE, [("pair", "b", "a", 1, "a", (7, 1)), REST]))

    def test_either_item_of_a_pair_is_probed(self):
        self.assertIsNone(check_log(TWO, COMPARE, [("pair", "a", "b", 1, "b", (12, 1))]))
        log = [("pair", "a", "b", 1, "b", (8, 1)), ("required", "a", 0, (7, 1))]
        self.assertIsNone(check_log(TWO, COMPARE, log))

    def test_required_items_in_descending_order(self):
        intervals = rows(a=(0, 10), b=(0, 10))
        log = [("required", "b", 1, (3, 1)), ("required", "a", 1, (4, 1))]
        self.assertIsNone(check_log(intervals, COMPARE, log))

    def test_pairs_before_required_items(self):
        self.assertIsNone(check_log(THREE, BOTH, [PAIR, START, REST]))
        self.assertIsNone(check_log(THREE, BOTH, [PAIR, REST, START]))

    def test_a_pair_where_items_are_required(self):
        intervals = rows(a=(0, 10), b=(0, 10))
        log = [("pair", "a", "b", 1, "a", (3, 1)), ("required", "b", 0, (4, 1))]
        self.assertIsNone(check_log(intervals, COMPARE, log))


class Rules(LogCase):
    def test_logs_of_the_strategy(self):
        source = random.Random(151)
        for _ in range(1000):
            intervals, queries, values, prices = some_case(source, 6, 8)
            log = resolve(intervals, queries, values, prices=prices)[1]
            self.assertIsNone(check_log(intervals, queries, log, prices=prices))
            for count in range(len(log)):
                found = check_log(intervals, queries, log[:count], prices=prices)
                self.assertEqual(found, (count, "uncertain"))

    def test_changed_logs(self):
        source = random.Random(152)
        codes = set()
        for _ in range(6000):
            intervals, queries, values, prices = some_case(source)
            log = some_valid_log(source, intervals, queries, values, prices)
            for _ in range(source.choice([1, 1, 2])):
                log = changed_log(source, log, names_of(intervals)) if log else log
            found = self.check_unchanged(check_log, intervals, queries, log, prices=prices)
            self.assertEqual(found, rule_check_log(intervals, queries, log, prices))
            codes.add(found and found[1])
        expected = {None, "shape", "name", "witness", "amount", "price", "value", "uncertain"}
        self.assertEqual(codes, expected)

    def test_logs_in_other_orders(self):
        """Point 14: no sufficient set costs less than the charge, and the spent price is at most twice the charge."""
        source = random.Random(153)
        for _ in range(800):
            intervals, queries, values, prices = some_case(source)
            log = some_valid_log(source, intervals, queries, values, prices)
            self.assertIsNone(check_log(intervals, queries, log, prices=prices))
            spent, charge = log_totals(log, prices=prices)
            self.assertEqual(spent, cost(prices, [entry_probed(entry) for entry in log]))
            self.assertEqual(charge, sum(entry_amount(entry) for entry in log))
            self.assertLessEqual(charge, cheapest_price(intervals, queries, values, prices))
            self.assertLessEqual(spent, 2 * charge)
            if all(entry[0] == "required" for entry in log):
                self.assertEqual(spent, charge)

    def test_great_fractions(self):
        source = random.Random(154)
        for _ in range(200):
            intervals, queries, values, prices = some_case(source, least=1)
            log = some_valid_log(source, intervals, queries, values, prices)
            for change in great_maps():
                asked = [map_query(change, query) for query in queries]
                great = map_intervals(change, intervals)
                self.assertIsNone(check_log(great, asked, map_log(change, log), prices=prices))
                if log:
                    broken = log[:-1] + [(*log[-1][:-1], (99, 1))]
                    found = check_log(great, asked, map_log(change, broken), prices=prices)
                    self.assertEqual(found, (len(log) - 1, "value"))

    def test_other_prices(self):
        """A log of the strategy is valid for its own prices only."""
        log = resolve(TWO, COMPARE, {"a": (7, 1), "b": (12, 1)}, prices={"a": 2, "b": 2})[1]
        self.assertIsNone(check_log(TWO, COMPARE, log, prices={"a": 2, "b": 2}))
        self.assertEqual(check_log(TWO, COMPARE, log), (0, "amount"))
        self.assertEqual(check_log(TWO, COMPARE, log, prices={"a": 3, "b": 3}), (0, "price"))
        self.assertEqual(check_log(TWO, COMPARE, log, prices={"a": 2, "b": 3}), (1, "price"))


class Errors(LogCase):
    def test_errors_before_the_log_is_read(self):
        log = [()]
        swapped = rows(a=(1, 0))
        self.check_error(InvalidIntervals(), check_log, swapped, [("sort", ())], log, prices={"z": 0})
        self.check_error(InvalidQuery(0), check_log, TWO, [("sort", ())], log, prices={"z": 0})
        self.check_error(InvalidQuery(8), check_log, TWO, COMPARE * 9, log, prices={"z": 0})
        self.check_error(UnknownItem("z"), check_log, TWO, COMPARE, log, prices={"z": 0})
        self.check_error(InvalidPrice("b"), check_log, TWO, COMPARE, log, prices={"b": 0})
        self.check_error(InvalidPrice("b"), check_log, TWO, COMPARE, [PAIR, REST], prices={"b": 1001, "c": 1})

    def test_the_log_and_the_result_stay_apart(self):
        log = [PAIR, REST]
        self.assertIsNone(self.check_unchanged(check_log, TWO, COMPARE, log, prices={"b": 1}))
        self.assertEqual(log, [PAIR, REST])


if __name__ == "__main__":
    unittest.main()
