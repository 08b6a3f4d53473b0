"""Points 16 to 19, and `cheapest` in the interface of doubtwell/optimum.py."""

import inspect
import random
import unittest
from itertools import product

from doubtwell import optimum as module
from doubtwell.errors import (
    InvalidFraction,
    InvalidIntervals,
    InvalidPrice,
    InvalidQuery,
    InvalidValue,
    MissingValue,
    UnknownItem,
)
from doubtwell.optimum import cheapest

from helpers import (
    NOT_FRACTIONS,
    ErrorCase,
    all_scenarios,
    as_values,
    cheapest_price,
    cost,
    every_query,
    every_row,
    great_maps,
    is_enough,
    map_intervals,
    map_query,
    map_values,
    parts_of,
    query_names,
    row,
    rows,
    rule_cheapest,
    some_single_case,
    turned_rows,
    unknown_names,
    whole,
)

TWO = rows(a=(0, 10), b=(5, 15))
COMPARE = ("compare", "a", "b")
VALUES = {"a": (7, 1), "b": (12, 1)}


class CheapestCase(ErrorCase):
    def check(self, intervals, query, values, expected, prices=None):
        values = {name: whole(value) for name, value in values.items()}
        found = cheapest(intervals, query, values, prices=prices)
        self.assertEqual(found, expected)
        self.assertEqual(found[0], cheapest_price(intervals, [query], values, prices))


class Interface(CheapestCase):
    def test_examples(self):
        self.assertEqual(cheapest(TWO, COMPARE, VALUES), (1, ["b"], ("sweep", [("b", "a")], [("a", 1)])))
        found = cheapest(TWO, ("min", ("a", "b")), VALUES, prices={"a": 4})
        self.assertEqual(found, (1, ["b"], ("options", [(None, 5), ("a", 1)])))

    def test_parameters(self):
        self.assertEqual(str(inspect.signature(cheapest)), "(intervals, query, values, *, prices=None)")
        self.assertEqual(cheapest.__module__, module.__name__)
        expected = cheapest(TWO, COMPARE, VALUES, prices={"a": 3})
        self.assertEqual(cheapest(prices={"a": 3}, values=VALUES, query=COMPARE, intervals=TWO), expected)
        with self.assertRaises(TypeError):
            cheapest(TWO, COMPARE, VALUES, {"a": 3})

    def test_kinds_of_the_result(self):
        for query, parts in [
            (COMPARE, [str, list, list]),
            (("min", ("a", "b")), [str, list]),
            (("above", ("a", "b"), (8, 1)), [str, list]),
        ]:
            found = cheapest(TWO, query, VALUES)
            self.assertEqual([type(found)] + [type(part) for part in found], [tuple, int, list, tuple])
            self.assertEqual([type(part) for part in found[2]], parts)
        for pairs in cheapest(TWO, COMPARE, VALUES)[2][1:]:
            self.assertEqual([type(pair) for pair in pairs], [tuple] * len(pairs))


class Above(CheapestCase):
    def test_required_items(self):
        intervals = rows(a=(0, 10), b=(5, 15), c=(8, 9), d=8, e=(0, 8))
        values = {"a": (1, 1), "b": (14, 1), "c": (17, 2), "d": (8, 1), "e": (5, 1)}
        query = ("above", ("e", "d", "c", "b", "a"), (8, 1))
        self.assertEqual(cheapest(intervals, query, values), (2, ["a", "b"], ("threshold", ["a", "b"])))
        found = cheapest(intervals, query, values, prices={"a": 7, "c": 5, "b": 1000})
        self.assertEqual(found, (1007, ["a", "b"], ("threshold", ["a", "b"])))
        query = ("above", ("b",), (8, 1))
        self.assertEqual(cheapest(intervals, query, values), (1, ["b"], ("threshold", ["b"])))

    def test_nothing_required(self):
        for threshold in (0, 15, 20, -3):
            self.check(rows(a=(0, 15)), ("above", ("a",), whole(threshold)), {"a": 3}, (0, [], ("threshold", [])))


class Sweep(CheapestCase):
    def check_sort(self, intervals, values, price, names, forced, charges, prices=None):
        expected = (price, names, ("sweep", forced, charges))
        order = tuple(name for name, _, _ in intervals)
        self.check(intervals, ("sort", order), values, expected, prices)
        self.check(intervals, ("sort", order[::-1]), values, expected, prices)
        if len(order) == 2:
            self.check(intervals, ("compare", *order), values, expected, prices)
            self.check(intervals, ("compare", *order[::-1]), values, expected, prices)

    def test_one_item(self):
        self.check_sort(rows(a=(0, 5)), {"a": 3}, 0, [], [], [("a", 1)])
        self.check_sort(rows(a=(0, 5)), {"a": 3}, 0, [], [], [("a", 9)], {"a": 9})
        self.check_sort(rows(a=5), {"a": 5}, 0, [], [], [])

    def test_a_chain(self):
        chain = rows(a=(0, 4), b=(2, 6), c=(5, 9))
        values = {"a": 1, "b": 4, "c": 7}
        self.check_sort(chain, values, 1, ["b"], [], [("a", 1), ("c", 1)])
        self.check_sort(chain, values, 2, ["a", "c"], [], [("a", 1), ("b", 4)], {"b": 5})

    def test_a_tie_of_two_sets(self):
        chain = rows(a=(0, 4), b=(2, 6), c=(5, 9))
        values = {"a": 1, "b": 4, "c": 7}
        # After a, b has 1 left; its charge leaves nothing for c, so that b is skipped.
        self.check_sort(chain, values, 2, ["a", "c"], [], [("a", 1), ("b", 1)], {"b": 2})

    def test_upper_bounds_before_names(self):
        chain = rows(a=(5, 9), b=(2, 6), c=(0, 4))
        values = {"c": 1, "b": 4, "a": 7}
        self.check_sort(chain, values, 1, ["b"], [], [("c", 1), ("a", 1)])
        self.check_sort(chain, values, 2, ["a", "c"], [], [("c", 1), ("b", 4)], {"b": 5})

    def test_ties_of_upper_bounds(self):
        # With equal upper bounds, the wider item contains the value of the other one.
        self.check_sort(rows(a=(0, 6), b=(3, 6)), {"a": 2, "b": 4}, 1, ["a"], [("a", "b")], [("b", 1)])
        self.check_sort(rows(a=(3, 6), b=(0, 6)), {"a": 4, "b": 2}, 1, ["b"], [("b", "a")], [("a", 1)])
        self.check_sort(rows(a=(0, 6), b=(0, 6)), {"a": 2, "b": 4}, 2, ["a", "b"], [("a", "b"), ("b", "a")], [])
        # The end point of b is that of c, which is forced and takes no part in the charges.
        intervals = rows(a=(0, 4), b=(3, 6), c=(2, 6))
        self.check_sort(intervals, {"a": 1, "b": 5, "c": 4}, 2, ["b", "c"], [("b", "c"), ("c", "b")], [("a", 1)])
        self.check_sort(intervals, {"a": 1, "b": 5, "c": 3}, 2, ["a", "c"], [("a", "c"), ("c", "b")], [("b", 1)])

    def test_touching_bounds(self):
        self.check_sort(rows(a=(0, 5), b=(5, 9)), {"a": 3, "b": 6}, 0, [], [], [("a", 1), ("b", 1)])
        self.check_sort(rows(a=(5, 9), b=(0, 5)), {"a": 6, "b": 3}, 0, [], [], [("b", 1), ("a", 1)])
        # The value of b touches the interval of a, and that of a the interval of b.
        self.check_sort(TWO, {"a": 5, "b": 10}, 1, ["b"], [], [("a", 1)])
        self.check_sort(TWO, {"a": 5, "b": 10}, 1, ["b"], [], [("a", 4)], {"a": 4})
        self.check_sort(TWO, {"a": 5, "b": 10}, 1, ["a"], [], [("a", 1), ("b", 3)], {"b": 4})

    def test_forced_items(self):
        self.check_sort(TWO, {"a": 7, "b": 12}, 1, ["b"], [("b", "a")], [("a", 1)])
        self.check_sort(TWO, {"a": 3, "b": 8}, 1, ["a"], [("a", "b")], [("b", 1)])
        self.check_sort(TWO, {"a": 7, "b": 8}, 2, ["a", "b"], [("a", "b"), ("b", "a")], [])
        # A nested item is known to lie inside.
        self.check_sort(rows(a=(0, 10), b=(2, 5)), {"a": 7, "b": 3}, 1, ["a"], [("a", "b")], [("b", 1)])

    def test_the_smallest_other_name(self):
        intervals = rows(a=(0, 10), b=3, c=(1, 5))
        self.check_sort(intervals, {"a": 8, "b": 3, "c": 2}, 2, ["a", "c"], [("a", "b"), ("c", "b")], [])
        intervals = rows(a=20, b=3, c=(0, 10), d=(1, 5))
        self.check_sort(intervals, {"a": 20, "b": 3, "c": 8, "d": 4}, 2, ["c", "d"], [("c", "b"), ("d", "b")], [])
        intervals = rows(a=(6, 8), b=(0, 10), c=(1, 5))
        self.check_sort(intervals, {"a": 7, "b": 9, "c": 2}, 1, ["b"], [("b", "a")], [("c", 1), ("a", 1)])

    def test_known_items(self):
        self.check_sort(rows(a=(0, 10), b=5), {"a": 5, "b": 5}, 1, ["a"], [("a", "b")], [])
        self.check_sort(rows(a=(0, 10), b=10), {"a": 5, "b": 10}, 0, [], [], [("a", 1)])
        self.check_sort(rows(a=(0, 10), b=0), {"a": 5, "b": 0}, 0, [], [], [("a", 1)])
        self.check_sort(rows(a=3, b=3), {"a": 3, "b": 3}, 0, [], [], [])

    def test_items_outside_of_the_query(self):
        intervals = rows(a=(0, 10), b=(5, 15), c=7, d=(6, 8))
        values = {"a": 3, "b": 12, "d": 7}
        self.check(intervals, COMPARE, values, (1, ["b"], ("sweep", [], [("a", 1)])))


class Options(CheapestCase):
    def check_min(self, bounds, values, price, names, lines, prices=None):
        expected = (price, names, ("options", lines))
        order = tuple(sorted(bounds))
        self.check(rows(**bounds), ("min", order), values, expected, prices)
        self.check(rows(**bounds), ("min", order[::-1]), values, expected, prices)
        turned = {name: -value for name, value in values.items()}
        self.check(turned_rows(**bounds), ("max", order), turned, expected, prices)

    def test_one_item(self):
        self.check_min({"a": (0, 5)}, {"a": 3}, 0, [], [(None, 1), ("a", 0)])
        self.check_min({"a": 5}, {"a": 5}, 0, [], [(None, 0)])

    def test_two_items(self):
        bounds = {"a": (0, 10), "b": (5, 15)}
        self.check_min(bounds, {"a": 7, "b": 12}, 1, ["b"], [(None, 2), ("a", 1)])
        self.check_min(bounds, {"a": 7, "b": 12}, 3, ["b"], [(None, 4), ("a", 3)], {"b": 3})
        self.check_min(bounds, {"a": 7, "b": 8}, 2, ["a", "b"], [(None, 2)])
        self.check_min(bounds, {"a": 9, "b": 6}, 2, ["a", "b"], [(None, 2)])

    def test_a_lower_bound_at_the_smallest_value(self):
        self.check_min({"a": (0, 10), "b": (5, 15)}, {"a": 5, "b": 6}, 1, ["a"], [(None, 1)])
        self.check_min({"a": (0, 10), "b": 5}, {"a": 5, "b": 5}, 1, ["a"], [(None, 1)])
        self.check_min({"a": (5, 10), "b": 5}, {"a": 7, "b": 5}, 0, [], [(None, 0)])

    def test_values_at_the_upper_bound(self):
        self.check_min({"a": (0, 10), "b": (5, 15)}, {"a": 7, "b": 10}, 1, ["b"], [(None, 2), ("a", 1)])
        self.check_min({"a": (0, 10), "b": 10}, {"a": 7, "b": 10}, 0, [], [(None, 1), ("a", 0)])
        self.check_min({"a": (0, 10), "b": 9}, {"a": 7, "b": 9}, 1, ["a"], [(None, 1)])
        self.check_min({"a": (0, 10), "b": (10, 15)}, {"a": 7, "b": 12}, 0, [], [(None, 1), ("a", 0)])

    def test_ties_of_rows(self):
        bounds = {"a": (0, 10), "b": (8, 12)}
        self.check_min(bounds, {"a": 5, "b": 11}, 1, ["a"], [(None, 1), ("a", 1)])
        self.check_min(bounds, {"a": 5, "b": 11}, 1, ["b"], [(None, 2), ("a", 1)], {"a": 2})
        self.check_min(bounds, {"a": 5, "b": 11}, 7, ["a"], [(None, 7), ("a", 7)], {"a": 7, "b": 7})
        self.check_min(bounds, {"a": 5, "b": 11}, 1, ["a"], [(None, 1), ("a", 9)], {"b": 9})

    def test_rows_of_later_names(self):
        bounds = {"a": (5, 15), "b": (0, 10), "c": (9, 20), "d": 10}
        values = {"a": 12, "b": 7, "c": 13, "d": 10}
        self.check_min(bounds, values, 2, ["a", "b"], [(None, 2), ("b", 2)])
        self.check_min(bounds, values, 2, ["a", "c"], [(None, 4), ("b", 2)], {"b": 3})
        self.check_min(bounds, {**values, "c": 10}, 2, ["a", "c"], [(None, 4), ("b", 2)], {"b": 3})

    def test_known_items_below(self):
        self.check_min({"a": (5, 15), "b": 3, "c": (0, 4)}, {"a": 6, "b": 3, "c": 2}, 1, ["c"], [(None, 1)])
        self.check_min({"a": (5, 15), "b": -3}, {"a": 6, "b": -3}, 0, [], [(None, 0)])


class Rules(CheapestCase):
    def check_rules(self, intervals, query, values, prices):
        found = self.check_unchanged(cheapest, intervals, query, values, prices=prices)
        self.assertEqual(found, rule_cheapest(intervals, query, values, prices))
        price, names, _ = found
        self.assertEqual(price, cost(prices, names))
        self.assertTrue(is_enough(intervals, [query], values, names))
        self.assertEqual(price, cheapest_price(intervals, [query], values, prices))
        self.assertLessEqual(set(names), set(unknown_names(intervals)) & set(query_names(query)))

    def test_random_cases(self):
        source = random.Random(161)
        for _ in range(3000):
            self.check_rules(*some_single_case(source))

    def test_two_items(self):
        """All small instances of two items in all scenarios."""
        source = random.Random(162)
        for first, second in product(every_row("a", 3), every_row("b", 3)):
            intervals = [first, second]
            for query in every_query(["a", "b"], 1):
                for scenario in all_scenarios(intervals):
                    prices = source.choice([None, {"a": 2}, {"a": 2, "b": 3}, {"b": 1000}])
                    self.check_rules(intervals, query, as_values(scenario), prices)

    def test_long_chains(self):
        source = random.Random(163)
        names = ["a" + letter for letter in "abcdefghijklmnopqrstuvwx"]
        for _ in range(50):
            source.shuffle(names)
            intervals = sorted(row(name, 3 * at, 3 * at + source.randint(2, 8)) for at, name in enumerate(names))
            values = {name: whole(source.randrange(low[0] + 1, high[0])) for name, low, high in intervals}
            prices = {name: source.randint(1, 1000) for name in names}
            for kind in ("sort", "min", "max"):
                query = (kind, tuple(names))
                expected = rule_cheapest(intervals, query, values, prices)
                self.assertEqual(cheapest(intervals, query, values, prices=prices), expected)
                self.assertTrue(is_enough(intervals, [query], values, expected[1]))

    def test_great_fractions(self):
        source = random.Random(164)
        for _ in range(300):
            intervals, query, values, prices = some_single_case(source)
            expected = cheapest(intervals, query, values, prices=prices)
            for change in great_maps():
                great, asked = map_intervals(change, intervals), map_query(change, query)
                self.assertEqual(cheapest(great, asked, map_values(change, values), prices=prices), expected)


class Errors(CheapestCase):
    QUERIES = [COMPARE, ("sort", ("b", "a")), ("min", ("b", "a")), ("max", ("a", "b")), ("above", ("b", "a"), (99, 1))]

    def test_missing_values(self):
        for query in self.QUERIES:
            self.check_error(MissingValue("a"), cheapest, TWO, query, {})
            self.check_error(MissingValue("b"), cheapest, TWO, query, {"a": (7, 1)})

    def test_impossible_values(self):
        for query in self.QUERIES:
            for value in (0, 10, -1, 99):
                self.check_error(InvalidValue("a"), cheapest, TWO, query, {"a": whole(value)})
            self.check_error(InvalidValue("b"), cheapest, TWO, query, {"a": (7, 1), "b": (5, 1)})

    def test_malformed_values(self):
        for query in self.QUERIES:
            for value in NOT_FRACTIONS:
                self.check_error(InvalidFraction(), cheapest, TWO, query, {"a": value})
                self.check_error(InvalidFraction(), cheapest, TWO, query, {"a": (7, 1), "b": value})

    def test_known_items_are_read(self):
        intervals = rows(a=(0, 10), b=5)
        for query in self.QUERIES:
            self.check_error(MissingValue("b"), cheapest, intervals, query, {"a": (7, 1)})
            self.check_error(InvalidValue("b"), cheapest, intervals, query, {"a": (7, 1), "b": (6, 1)})
            self.check_error(InvalidFraction(), cheapest, intervals, query, {"a": (7, 1), "b": (10, 2)})

    def test_ascending_order_of_names(self):
        for query in self.QUERIES:
            self.check_error(InvalidValue("a"), cheapest, TWO, query, {"b": (2, 4), "a": (10, 1)})
            self.check_error(InvalidFraction(), cheapest, TWO, query, {"b": (99, 1), "a": (2, 4)})
            self.check_error(MissingValue("a"), cheapest, TWO, query, {"b": (2, 4)})

    def test_other_items_are_not_read(self):
        intervals = rows(a=(0, 10), b=(5, 15), c=(0, 1), d=4)
        for query in self.QUERIES:
            expected = cheapest(TWO, query, VALUES)
            for more in ({}, {"c": (2, 4), "d": (5, 1)}, {"c": (9, 1), "z": (1, 0)}):
                self.assertEqual(cheapest(intervals, query, {**VALUES, **more}), expected)

    def test_order_of_the_checks(self):
        swapped = rows(a=(1, 0))
        self.check_error(InvalidIntervals(), cheapest, swapped, ("sort", ()), {}, prices={"z": 0})
        self.check_error(InvalidQuery(0), cheapest, TWO, ("sort", ()), {}, prices={"z": 0})
        self.check_error(InvalidFraction(), cheapest, TWO, ("above", ("a",), (2, 4)), {}, prices={"z": 0})
        self.check_error(UnknownItem("z"), cheapest, TWO, COMPARE, {}, prices={"z": 0})
        self.check_error(InvalidPrice("a"), cheapest, TWO, COMPARE, {}, prices={"z": 0, "a": 0})
        self.check_error(InvalidPrice("b"), cheapest, TWO, ("min", ("a",)), {}, prices={"b": 1001})


class NewObjects(CheapestCase):
    def test_lists_of_the_result(self):
        for query in Errors.QUERIES + [("above", ("a", "b"), (8, 1))]:
            first, second = cheapest(TWO, query, VALUES), cheapest(TWO, query, VALUES)
            parts = parts_of(first) + parts_of(second)
            self.assertEqual(len({id(part) for part in parts}), len(parts))
            for part in parts_of(first):
                part.append("z")
            self.assertEqual(cheapest(TWO, query, VALUES), second)


if __name__ == "__main__":
    unittest.main()
