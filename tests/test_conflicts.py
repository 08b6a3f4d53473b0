"""Points 8 and 9, and `conflicting_scenarios` in the interface of doubtwell/subsets.py."""

import inspect
import random
import unittest
from fractions import Fraction
from itertools import product

from doubtwell import subsets as module
from doubtwell.errors import InvalidFraction, InvalidIntervals, InvalidQuery
from doubtwell.intervals import reveal
from doubtwell.queries import is_certain
from doubtwell.subsets import conflicting_scenarios

from helpers import (
    ErrorCase,
    correct_answers,
    every_query,
    every_row,
    great_maps,
    map_intervals,
    map_query,
    names_of,
    query_names,
    row,
    rows,
    rule_certain,
    some_single_case,
)

TWO = rows(a=(0, 10), b=(5, 15))


def first_answers(query, scenario):
    """What distinguishes two scenarios of a "sort" query with many items: the strict order of every two."""
    names = query_names(query)
    return {(one, two) for one, two in product(names, repeat=2) if scenario[one] < scenario[two]}


class ConflictCase(ErrorCase):
    def check_conflict(self, intervals, query):
        """None if and only if the query is certain; otherwise two scenarios without a common answer."""
        found = self.check_unchanged(conflicting_scenarios, intervals, query)
        if rule_certain(intervals, query):
            self.assertIsNone(found)
            return
        self.assertIs(type(found), tuple)
        self.assertEqual(len(found), 2)
        exact = []
        for scenario in found:
            self.assertIs(type(scenario), dict)
            self.assertEqual(sorted(scenario), names_of(intervals))
            # `reveal` checks that each value is possible.
            reveal(intervals, scenario, list(scenario))
            exact.append({name: Fraction(*value) for name, value in scenario.items()})
        first, second = exact
        if query[0] == "sort" and len(query[1]) > 6:
            turned = {(two, one) for one, two in first_answers(query, second)}
            self.assertTrue(first_answers(query, first) & turned)
        else:
            self.assertFalse(correct_answers(query, first) & correct_answers(query, second))


class Interface(ConflictCase):
    def test_example(self):
        self.assertIsNone(conflicting_scenarios(TWO, ("above", ("a", "b"), (20, 1))))

    def test_parameters(self):
        self.assertEqual(str(inspect.signature(conflicting_scenarios)), "(intervals, query)")
        self.assertEqual(conflicting_scenarios.__module__, module.__name__)
        self.assertIsNone(conflicting_scenarios(query=("min", ("a",)), intervals=TWO))

    def test_new_dicts(self):
        expected = conflicting_scenarios(TWO, ("min", ("a", "b")))
        found = conflicting_scenarios(TWO, ("min", ("a", "b")))
        self.assertIsNot(found[0], found[1])
        for scenario in found:
            scenario.clear()
        self.assertEqual(conflicting_scenarios(TWO, ("min", ("a", "b"))), expected)

    def test_errors(self):
        call = conflicting_scenarios
        self.check_error(InvalidIntervals(), call, rows(a=(1, 0)), ("sort", ()))
        self.check_error(InvalidQuery(0), call, TWO, ("sort", ("a", "z")))
        self.check_error(InvalidFraction(), call, TWO, ("above", ("a",), (2, 4)))


class Kinds(ConflictCase):
    def test_above(self):
        for threshold in [(1, 1), (19, 2), (5, 1), (10, 1), (14, 1), (0, 1), (15, 1)]:
            self.check_conflict(TWO, ("above", ("a", "b"), threshold))
            self.check_conflict(TWO, ("above", ("b",), threshold))

    def test_sort_and_compare(self):
        for intervals in [TWO, rows(a=(0, 10), b=(2, 5)), rows(a=(0, 10), b=5), rows(a=5, b=(0, 10)),
                          rows(a=(0, 10), b=(0, 10)), rows(a=(0, 5), b=(5, 10)), rows(a=3, b=3)]:
            self.check_conflict(intervals, ("compare", "a", "b"))
            self.check_conflict(intervals, ("sort", ("b", "a")))

    def test_min_and_max(self):
        for bounds in [
            {"a": (0, 10), "b": (5, 15), "c": (5, 6)},
            {"a": (0, 10), "b": 5},
            {"a": (0, 10), "b": 10},
            {"a": (0, 10), "b": 0},
            {"a": (0, 10), "b": (0, 10), "c": (0, 4)},
            {"a": (0, 10), "b": (10, 12), "c": 11},
            {"a": (5, 10), "b": (5, 12), "c": 6, "d": (7, 8)},
        ]:
            for kind in ("min", "max"):
                self.check_conflict(rows(**bounds), (kind, tuple(bounds)))

    def test_items_outside_of_the_query(self):
        intervals = rows(a=(0, 10), b=(5, 15), c=(3, 4), d=100)
        for query in [("compare", "a", "b"), ("min", ("a", "b")), ("max", ("b", "a")), ("above", ("b",), (7, 1))]:
            self.check_conflict(intervals, query)

    def test_equal_values_do_not_make_a_conflict(self):
        # Only strict differences distinguish the answers of two scenarios.
        self.check_conflict(rows(a=(0, 2), b=1), ("min", ("a", "b")))
        self.check_conflict(rows(a=(0, 2), b=(0, 2), c=(0, 2)), ("max", ("a", "b", "c")))


class Rules(ConflictCase):
    def test_two_items(self):
        for first, second in product(every_row("a", 4), every_row("b", 4)):
            for query in every_query(["a", "b"], 4):
                self.check_conflict([first, second], query)

    def test_three_items(self):
        for some in product(every_row("a", 2), every_row("b", 2), every_row("c", 2)):
            for query in every_query(["a", "b", "c"], 2):
                self.check_conflict(list(some), query)

    def test_random_cases(self):
        source = random.Random(81)
        for _ in range(2000):
            intervals, query, _, _ = some_single_case(source)
            self.check_conflict(intervals, query)

    def test_great_fractions(self):
        source = random.Random(82)
        for _ in range(100):
            intervals, query, _, _ = some_single_case(source)
            for change in great_maps():
                self.check_conflict(map_intervals(change, intervals), map_query(change, query))

    def test_all_items(self):
        source = random.Random(83)
        names = ["a" + letter for letter in "abcdefghijklmnopqrstuvwx"]
        for _ in range(40):
            intervals = [row(name, *sorted(source.sample(range(100), 2))) for name in names]
            for kind in ("sort", "min", "max"):
                self.check_conflict(intervals, (kind, tuple(source.sample(names, 24))))

    def test_agrees_with_is_certain(self):
        source = random.Random(84)
        for _ in range(500):
            intervals, query, _, _ = some_single_case(source)
            self.assertIs(conflicting_scenarios(intervals, query) is None, is_certain(intervals, query))


if __name__ == "__main__":
    unittest.main()
