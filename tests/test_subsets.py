"""Points 5, 6 and 10, and `is_sufficient` and `cheapest_subset` in the interface of doubtwell/subsets.py."""

import inspect
import random
import unittest
from itertools import combinations

from doubtwell import subsets as module
from doubtwell.errors import (
    InvalidFraction,
    InvalidIntervals,
    InvalidPrice,
    InvalidQuery,
    InvalidValue,
    LimitExceeded,
    MissingValue,
    UnknownItem,
)
from doubtwell.optimum import cheapest
from doubtwell.subsets import cheapest_subset, is_sufficient

from helpers import (
    NOT_FRACTIONS,
    ErrorCase,
    all_subsets,
    cost,
    is_enough,
    names_of,
    query_names,
    row,
    rows,
    some_case,
    unknown_names,
    whole,
)

TWO = rows(a=(0, 10), b=(5, 15))
COMPARE = [("compare", "a", "b")]
VALUES = {"a": (7, 1), "b": (12, 1)}
LETTERS = "abcdefghijklmnopqrstuvwx"


class IsSufficient(ErrorCase):
    def test_examples(self):
        self.assertIs(is_sufficient(TWO, COMPARE, VALUES, ["b"]), True)
        self.assertIs(is_sufficient(TWO, COMPARE, VALUES, ["a"]), False)

    def test_parameters(self):
        self.assertEqual(str(inspect.signature(is_sufficient)), "(intervals, queries, values, names)")
        self.assertEqual(is_sufficient.__module__, module.__name__)
        self.assertIs(is_sufficient(names=["b"], values=VALUES, queries=COMPARE, intervals=TWO), True)

    def test_no_names_and_no_queries(self):
        self.assertIs(is_sufficient(TWO, COMPARE, {}, []), False)
        self.assertIs(is_sufficient(TWO, [], {}, []), True)
        self.assertIs(is_sufficient([], [], {}, []), True)
        self.assertIs(is_sufficient(TWO, [("min", ("a",))], {}, []), True)

    def test_all_queries_count(self):
        queries = COMPARE + [("above", ("a",), (4, 1))]
        self.assertIs(is_sufficient(TWO, queries, VALUES, ["b"]), False)
        self.assertIs(is_sufficient(TWO, queries, VALUES, ["a", "b"]), True)

    def test_names_in_any_order_and_with_duplicates(self):
        source = random.Random(101)
        for _ in range(800):
            intervals, queries, values, _ = some_case(source)
            names = source.choices(names_of(intervals), k=source.randrange(8))
            found = self.check_unchanged(is_sufficient, intervals, queries, values, names)
            self.assertIs(found, is_enough(intervals, queries, values, names))
            self.assertIs(is_sufficient(intervals, queries, values, names[::-1] + names), found)

    def test_known_items_may_be_probed(self):
        intervals = rows(a=(0, 10), b=5)
        self.assertIs(is_sufficient(intervals, COMPARE, {"b": (5, 1)}, ["b", "b"]), False)
        self.assertIs(is_sufficient(intervals, COMPARE, {"b": (5, 1), "a": (1, 1)}, ["b", "a"]), True)

    def test_errors_of_names_and_values(self):
        call = is_sufficient
        for name in ("c", "", "A", "abcdefgh"):
            self.check_error(UnknownItem(name), call, TWO, COMPARE, VALUES, [name])
        self.check_error(MissingValue("a"), call, TWO, COMPARE, {}, ["b", "a"])
        self.check_error(MissingValue("b"), call, TWO, COMPARE, {"a": (7, 1)}, ["b", "a"])
        self.check_error(InvalidValue("a"), call, TWO, COMPARE, {"a": (10, 1)}, ["a"])
        self.check_error(InvalidValue("b"), call, rows(a=(0, 10), b=5), COMPARE, {"b": (6, 1)}, ["b"])
        for value in NOT_FRACTIONS:
            self.check_error(InvalidFraction(), call, TWO, COMPARE, {"a": value}, ["a"])

    def test_names_in_ascending_order(self):
        call = is_sufficient
        self.check_error(InvalidValue("a"), call, TWO, COMPARE, {"a": (10, 1), "b": (2, 4)}, ["c", "b", "a"])
        self.check_error(InvalidFraction(), call, TWO, COMPARE, {"a": (1, 1), "b": (2, 4)}, ["c", "b", "a"])
        self.check_error(UnknownItem("aa"), call, TWO, COMPARE, {"a": (1, 1), "b": (2, 4)}, ["b", "a", "aa"])
        self.check_error(UnknownItem("A"), call, TWO, COMPARE, {}, ["b", "a", "A"])

    def test_errors_although_the_queries_are_certain(self):
        self.check_error(MissingValue("a"), is_sufficient, TWO, [], {}, ["a"])
        self.check_error(UnknownItem("c"), is_sufficient, TWO, [], {}, ["c"])

    def test_other_items_are_not_read(self):
        self.assertIs(is_sufficient(TWO, COMPARE, {"a": (2, 4), "b": (12, 1), "z": (1, 0)}, ["b"]), True)

    def test_order_of_the_checks(self):
        call = is_sufficient
        self.check_error(InvalidIntervals(), call, rows(a=(1, 0)), [("sort", ())], {}, ["c"])
        self.check_error(InvalidFraction(), call, [("a", (0, 1), (2, 4))], [("sort", ())], {}, ["c"])
        self.check_error(InvalidQuery(1), call, TWO, COMPARE + [("sort", ())], {}, ["c"])
        self.check_error(InvalidQuery(8), call, TWO, COMPARE * 9, {}, ["c"])


def rule_subset(intervals, queries, values, prices):
    """The cheapest price and the smallest set of that price."""
    asked = {name for query in queries for name in query_names(query)}
    names = [name for name in unknown_names(intervals) if name in asked]
    sets = [list(chosen) for chosen in all_subsets(names) if is_enough(intervals, queries, values, chosen)]
    return min((cost(prices, chosen), chosen) for chosen in sets)


class CheapestSubset(ErrorCase):
    def test_example(self):
        self.assertEqual(cheapest_subset(TWO, COMPARE, VALUES), (1, ["b"]))

    def test_parameters(self):
        self.assertEqual(str(inspect.signature(cheapest_subset)), "(intervals, queries, values, *, prices=None)")
        self.assertEqual(cheapest_subset.__module__, module.__name__)
        found = cheapest_subset(prices={"b": 9}, values=VALUES, queries=COMPARE, intervals=TWO)
        self.assertEqual(found, (9, ["b"]))
        with self.assertRaises(TypeError):
            cheapest_subset(TWO, COMPARE, VALUES, {"b": 9})

    def test_kinds_of_the_result(self):
        found = cheapest_subset(TWO, COMPARE, VALUES)
        self.assertEqual([type(found)] + [type(part) for part in found], [tuple, int, list])

    def test_nothing_to_do(self):
        self.assertEqual(cheapest_subset([], [], {}), (0, []))
        self.assertEqual(cheapest_subset(TWO, [], {}), (0, []))
        self.assertEqual(cheapest_subset(TWO, [("min", ("a",))], {"a": (7, 1)}), (0, []))

    def test_ties(self):
        values = {"a": (5, 1), "b": (10, 1)}
        self.assertEqual(cheapest_subset(TWO, COMPARE, values), (1, ["a"]))
        self.assertEqual(cheapest_subset(TWO, COMPARE, values, prices={"a": 2}), (1, ["b"]))
        self.assertEqual(cheapest_subset(TWO, COMPARE, values, prices={"a": 2, "b": 2}), (2, ["a"]))

    def test_lists_are_compared_as_python_does(self):
        # Either a and d, or b alone, for the same price: ["a", "d"] is less than ["b"].
        intervals = rows(a=(0, 4), b=(2, 8), d=(6, 10))
        values = {"a": (1, 1), "b": (5, 1), "d": (9, 1)}
        queries = [("sort", ("a", "b", "d"))]
        self.assertEqual(cheapest_subset(intervals, queries, values, prices={"b": 2}), (2, ["a", "d"]))
        self.assertEqual(cheapest_subset(intervals, queries, values), (1, ["b"]))

    def test_several_queries(self):
        # Each query alone would take the cheaper item; together b is enough for both.
        intervals = rows(a=(0, 4), b=(2, 8), c=(6, 10))
        values = {"a": (1, 1), "b": (5, 1), "c": (9, 1)}
        queries = [("compare", "a", "b"), ("compare", "c", "b")]
        prices = {"a": 2, "b": 3, "c": 2}
        self.assertEqual(cheapest_subset(intervals, queries, values, prices=prices), (3, ["b"]))
        self.assertEqual(cheapest_subset(intervals, queries[:1], values, prices=prices), (2, ["a"]))

    def test_exhaustive_search(self):
        source = random.Random(102)
        for _ in range(1200):
            intervals, queries, values, prices = some_case(source, 6, 4)
            found = self.check_unchanged(cheapest_subset, intervals, queries, values, prices=prices)
            self.assertEqual(found, rule_subset(intervals, queries, values, prices))
            self.assertIs(is_sufficient(intervals, queries, values, found[1]), True)
            if len(queries) == 1:
                self.assertEqual(cheapest(intervals, queries[0], values, prices=prices)[0], found[0])

    def test_no_cheaper_set_of_any_items(self):
        """Items outside of the queries do not help."""
        source = random.Random(103)
        for _ in range(300):
            intervals, queries, values, prices = some_case(source, 5, 2)
            price, _ = cheapest_subset(intervals, queries, values, prices=prices)
            for names in all_subsets(unknown_names(intervals)):
                if cost(prices, names) < price:
                    self.assertFalse(is_enough(intervals, queries, values, names))

    def test_a_new_list(self):
        first = cheapest_subset(TWO, COMPARE, VALUES)
        first[1].append("z")
        self.assertEqual(cheapest_subset(TWO, COMPARE, VALUES), (1, ["b"]))


class Limit(ErrorCase):
    def setUp(self):
        self.values = {letter: whole(at + 1) for at, letter in enumerate(LETTERS)}

    def overlapping(self, count):
        return [row(letter, 0, 50) for letter in LETTERS[:count]]

    def test_ten_unknown_items(self):
        names = tuple(LETTERS[:10])
        found = cheapest_subset(self.overlapping(10), [("sort", names)], self.values)
        self.assertEqual(found, (10, list(names)))
        found = cheapest_subset(self.overlapping(10), [("above", names[::-1], (25, 1))], self.values)
        self.assertEqual(found, (10, list(names)))
        # A chain whose items contain no other value: every second item is enough.
        chain = [row(letter, 4 * at, 4 * at + 6) for at, letter in enumerate(LETTERS[:10])]
        values = {letter: whole(4 * at + 3) for at, letter in enumerate(LETTERS[:10])}
        found = cheapest_subset(chain, [("sort", names)], values)
        self.assertEqual(found, (5, list("acegi")))

    def test_more_than_ten_unknown_items(self):
        for count in (11, 12, 24):
            names = tuple(LETTERS[:count])
            for queries in ([("sort", names)], [("min", names)], [("above", names, (25, 1))] * 2):
                expected = LimitExceeded(count)
                self.check_error(expected, cheapest_subset, self.overlapping(count), queries, self.values)

    def test_items_of_all_queries_count_once(self):
        queries = [("min", tuple(LETTERS[:6])), ("max", tuple(LETTERS[3:11]))]
        self.check_error(LimitExceeded(11), cheapest_subset, self.overlapping(24), queries, self.values)
        queries = [("min", tuple(LETTERS[:6])), ("max", tuple(LETTERS[3:10])), ("compare", "a", "j")]
        self.assertEqual(cheapest_subset(self.overlapping(24), queries, self.values), (10, list(LETTERS[:10])))

    def test_the_limit_holds_although_all_queries_are_certain(self):
        apart = [row(letter, at, at + 1) for at, letter in enumerate(LETTERS)]
        values = {letter: (2 * at + 1, 2) for at, letter in enumerate(LETTERS)}
        self.check_error(LimitExceeded(11), cheapest_subset, apart, [("sort", tuple(LETTERS[:11]))], values)
        self.assertEqual(cheapest_subset(apart, [("sort", tuple(LETTERS[:10]))], values), (0, []))

    def test_known_items_do_not_count(self):
        known = [row(letter, 60 + at) for at, letter in enumerate(LETTERS) if at >= 10]
        intervals = self.overlapping(10) + known
        found = cheapest_subset(intervals, [("sort", tuple(LETTERS))] * 2, self.values)
        self.assertEqual(found, (10, list(LETTERS[:10])))

    def test_order_of_the_checks(self):
        queries = [("sort", tuple(LETTERS[:11]))]
        intervals = self.overlapping(11)
        call = cheapest_subset
        self.check_error(InvalidIntervals(), call, intervals[::-1], queries, {}, prices={"a": 0})
        self.check_error(InvalidQuery(1), call, intervals, queries + [("sort", ())], {}, prices={"a": 0})
        self.check_error(InvalidPrice("a"), call, intervals, queries, {}, prices={"a": 0, "z": 1})
        self.check_error(UnknownItem("x"), call, intervals, queries, {}, prices={"x": 1})
        self.check_error(LimitExceeded(11), call, intervals, queries, {})
        self.check_error(MissingValue("a"), call, self.overlapping(10), [("sort", tuple(LETTERS[:10]))], {})


class Values(ErrorCase):
    def test_all_unknown_items_of_the_queries_are_read(self):
        intervals = rows(a=(0, 10), b=(5, 15), c=(20, 30))
        for queries in ([("min", ("c", "b", "a"))], [("above", ("c",), (1, 1)), ("compare", "b", "a")]):
            values = {"a": (7, 1), "b": (12, 1), "c": (25, 1)}
            cheapest_subset(intervals, queries, values)
            for name in "abc":
                rest = {other: values[other] for other in values if other != name}
                self.check_error(MissingValue(name), cheapest_subset, intervals, queries, rest)
                self.check_error(InvalidValue(name), cheapest_subset, intervals, queries, {**rest, name: (99, 1)})
                self.check_error(InvalidFraction(), cheapest_subset, intervals, queries, {**rest, name: (2, 4)})

    def test_ascending_order_of_names(self):
        queries = [("above", ("b",), (6, 1)), ("above", ("a",), (6, 1))]
        self.check_error(InvalidValue("a"), cheapest_subset, TWO, queries, {"b": (2, 4), "a": (10, 1)})
        self.check_error(InvalidFraction(), cheapest_subset, TWO, queries, {"b": (15, 1), "a": (2, 4)})

    def test_known_items_and_others_are_not_read(self):
        intervals = rows(a=(0, 10), b=(5, 15), c=7, d=(0, 1))
        queries = [("sort", ("a", "b", "c"))]
        for more in ({}, {"c": (8, 1), "d": (2, 4)}, {"c": (2, 4), "z": (1, 0)}):
            self.assertEqual(cheapest_subset(intervals, queries, {**VALUES, **more}), (2, ["a", "b"]))

    def test_first_bad_value(self):
        source = random.Random(104)
        for first, second in combinations("abcde", 2):
            intervals = [row(letter, 0, 10) for letter in "abcde"]
            values = {letter: (5, 1) for letter in "abcde"}
            values[second] = (2, 4)
            values[first] = source.choice([(10, 1), (0, 1)])
            queries = [("sort", tuple("edcba"))]
            self.check_error(InvalidValue(first), cheapest_subset, intervals, queries, values)
            self.check_error(InvalidValue(first), is_sufficient, intervals, queries, values, list("edcba"))


if __name__ == "__main__":
    unittest.main()
