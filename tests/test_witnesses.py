"""Points 3, 10, 11 and 12, and the interface of doubtwell/witnesses.py."""

import copy
import inspect
import random
import unittest
from itertools import permutations, product

from doubtwell import witnesses as module
from doubtwell.errors import QueryError
from doubtwell.queries import is_certain
from doubtwell.witnesses import required_items, witness_pairs

from helpers import (
    all_scenarios,
    all_subsets,
    as_values,
    every_query,
    every_row,
    great_maps,
    is_enough,
    map_intervals,
    map_query,
    names_of,
    query_names,
    rows,
    rule_pairs,
    rule_required,
    some_instance,
    some_query,
    turned_rows,
    unknown_names,
)

TWO = rows(a=(0, 10), b=(5, 15))


class WitnessCase(unittest.TestCase):
    def check(self, intervals, query, required, pairs):
        self.assertEqual(required_items(intervals, query), required)
        self.assertEqual(witness_pairs(intervals, query), pairs)

    def check_both(self, bounds, names, required, pairs):
        """The same with all values negated is a "max" query."""
        self.check(rows(**bounds), ("min", names), required, pairs)
        self.check(turned_rows(**bounds), ("max", names), required, pairs)


class Interface(WitnessCase):
    def test_examples(self):
        self.assertEqual(required_items(rows(a=(0, 10), b=(2, 3)), ("compare", "a", "b")), ["a"])
        self.assertEqual(witness_pairs(TWO, ("sort", ("a", "b"))), [("a", "b")])

    def test_parameters(self):
        for function in (required_items, witness_pairs):
            self.assertEqual(str(inspect.signature(function)), "(intervals, query)")
            self.assertEqual(function.__module__, module.__name__)
            self.assertEqual(function(query=("min", ("a",)), intervals=TWO), [])

    def test_kinds_of_the_results(self):
        found = required_items(rows(a=(0, 10), b=(2, 3)), ("compare", "a", "b"))
        self.assertIs(type(found), list)
        self.assertIs(type(found[0]), str)
        found = witness_pairs(TWO, ("max", ("b", "a")))
        self.assertIs(type(found), list)
        self.assertIs(type(found[0]), tuple)
        self.assertEqual([type(name) for name in found[0]], [str, str])


class SortAndCompare(WitnessCase):
    def check_two(self, intervals, required, pairs):
        for query in [("sort", ("a", "b")), ("sort", ("b", "a")), ("compare", "a", "b"), ("compare", "b", "a")]:
            self.check(intervals, query, required, pairs)

    def test_two_unknown_items(self):
        both = [("a", "b")]
        self.check_two(TWO, [], both)
        self.check_two(rows(a=(5, 15), b=(0, 10)), [], both)
        self.check_two(rows(a=(0, 5), b=(5, 10)), [], [])
        self.check_two(rows(a=(0, 5), b=(7, 10)), [], [])
        self.check_two(rows(a=(0, 10), b=(2, 3)), ["a"], both)
        self.check_two(rows(a=(2, 3), b=(0, 10)), ["b"], both)

    def test_equal_bounds(self):
        both = [("a", "b")]
        self.check_two(rows(a=(0, 10), b=(0, 10)), ["a", "b"], both)
        self.check_two(rows(a=(0, 10), b=(0, 4)), ["a"], both)
        self.check_two(rows(a=(0, 10), b=(4, 10)), ["a"], both)
        self.check_two(rows(a=(0, 4), b=(0, 10)), ["b"], both)
        self.check_two(rows(a=(4, 10), b=(0, 10)), ["b"], both)

    def test_a_known_item(self):
        self.check_two(rows(a=(0, 10), b=5), ["a"], [])
        self.check_two(rows(a=5, b=(0, 10)), ["b"], [])
        for value in (-1, 0, 10, 11):
            self.check_two(rows(a=(0, 10), b=value), [], [])
        self.check_two(rows(a=5, b=5), [], [])
        self.check_two(rows(a=5, b=6), [], [])

    def test_several_items(self):
        intervals = rows(a=(0, 10), b=(5, 15), c=(14, 20), d=7, e=(20, 30), f=(21, 22))
        for names in list(permutations("abcdef"))[::37]:
            pairs = [("a", "b"), ("b", "c"), ("e", "f")]
            self.check(intervals, ("sort", names), ["a", "b", "e"], pairs)

    def test_other_items_do_not_matter(self):
        intervals = rows(a=(0, 10), b=(5, 15), c=(6, 7), d=7)
        self.check(intervals, ("sort", ("b", "a")), [], [("a", "b")])
        self.check(intervals, ("sort", ("a",)), [], [])
        self.check(intervals, ("compare", "c", "b"), ["b"], [("b", "c")])

    def test_all_items(self):
        names = ["a" + letter for letter in "abcdefghijklmnopqrstuvwx"]
        intervals = [(name, (at, 1), (at + 2, 1)) for at, name in enumerate(names)]
        self.check(intervals, ("sort", tuple(names)), [], list(zip(names, names[1:])))
        equal = [(name, (0, 1), (2, 1)) for name in names]
        every_pair = [(one, two) for one in names for two in names if one < two]
        self.check(equal, ("sort", tuple(reversed(names))), names, every_pair)


class Above(WitnessCase):
    def test_threshold(self):
        intervals = rows(a=(0, 10), b=(5, 15), c=5, d=(0, 5), e=(4, 6))
        for names in permutations("abcde"):
            self.check(intervals, ("above", names, (5, 1)), ["a", "e"], [])
        self.check(intervals, ("above", ("e", "b", "d"), (11, 2)), ["b", "e"], [])
        self.check(intervals, ("above", ("d", "c"), (5, 1)), [], [])
        self.check(intervals, ("above", ("a", "b"), (20, 1)), [], [])


class MinAndMax(WitnessCase):
    def test_one_item(self):
        self.check_both({"a": (0, 10)}, ("a",), [], [])
        self.check_both({"a": 4}, ("a",), [], [])

    def test_two_unknown_items(self):
        names, both = ("b", "a"), [("a", "b")]
        self.check_both({"a": (0, 10), "b": (5, 15)}, names, [], both)
        self.check_both({"a": (5, 15), "b": (0, 10)}, names, [], both)
        self.check_both({"a": (0, 10), "b": (10, 15)}, names, [], [])
        self.check_both({"a": (0, 10), "b": (9, 15)}, names, [], both)
        self.check_both({"a": (0, 10), "b": (2, 3)}, names, ["a"], both)
        self.check_both({"a": (2, 3), "b": (0, 10)}, names, ["b"], both)

    def test_equal_bounds(self):
        names, both = ("a", "b"), [("a", "b")]
        self.check_both({"a": (0, 10), "b": (0, 10)}, names, ["a", "b"], both)
        self.check_both({"a": (0, 10), "b": (0, 4)}, names, ["a"], both)
        self.check_both({"a": (0, 4), "b": (0, 10)}, names, ["b"], both)
        self.check_both({"a": (0, 10), "b": (4, 10)}, names, ["a"], both)
        self.check_both({"a": (4, 10), "b": (0, 10)}, names, ["b"], both)

    def test_a_known_item(self):
        names = ("a", "b")
        self.check_both({"a": (0, 10), "b": -1}, names, [], [])
        self.check_both({"a": (0, 10), "b": 0}, names, [], [])
        self.check_both({"a": (0, 10), "b": 1}, names, ["a"], [])
        self.check_both({"a": (0, 10), "b": 9}, names, ["a"], [])
        self.check_both({"a": (0, 10), "b": 10}, names, [], [])
        self.check_both({"a": 3, "b": 3}, names, [], [])

    def test_a_known_item_empties_the_frontier(self):
        self.check_both({"a": (0, 10), "b": (2, 3), "c": 0}, ("a", "b", "c"), [], [])
        self.check_both({"a": (0, 10), "b": (2, 3), "c": 1}, ("a", "b", "c"), ["a"], [("a", "b")])
        self.check_both({"a": (0, 10), "b": (2, 3), "c": 12}, ("a", "b", "c"), ["a"], [("a", "b")])

    def test_only_frontier_items_are_required(self):
        bounds = {"a": (0, 3), "b": (1, 20), "c": (4, 5), "d": 6}
        self.check_both(bounds, ("d", "c", "b", "a"), [], [("a", "b")])
        bounds = {"a": (0, 3), "b": (1, 2), "c": (1, 20), "d": 6}
        self.check_both(bounds, ("d", "c", "b", "a"), ["a"], [("a", "b"), ("a", "c")])

    def test_several_frontier_items(self):
        bounds = {"a": (4, 8), "b": (0, 5), "c": (0, 3), "d": (2, 9), "e": (0, 5)}
        pairs = [("a", "b"), ("a", "e"), ("b", "c"), ("b", "d"), ("b", "e"), ("c", "d"), ("c", "e"), ("d", "e")]
        for names in list(permutations("abcde"))[::7]:
            self.check_both(bounds, names, ["b", "e"], pairs)

    def test_other_items_do_not_matter(self):
        bounds = {"a": (0, 10), "b": (5, 15), "c": (-2, 3), "d": -9}
        self.check_both(bounds, ("b", "a"), [], [("a", "b")])

    def test_min_and_max_differ(self):
        intervals = rows(a=(0, 4), b=(1, 9), c=(3, 7))
        self.check(intervals, ("min", ("a", "b", "c")), [], [("a", "b"), ("a", "c")])
        self.check(intervals, ("max", ("a", "b", "c")), ["b"], [("a", "b"), ("b", "c")])


class Rules(WitnessCase):
    def check_by_scenarios(self, intervals, query):
        """Required items and witness pairs by their meaning (point 10)."""
        needed = sufficient_sets(intervals, query)
        unknown = [name for name in unknown_names(intervals) if name in query_names(query)]
        required = [name for name in unknown if all(name in chosen for chosen in needed)]
        self.assertEqual(required_items(intervals, query), required)
        for first, second in witness_pairs(intervals, query):
            self.assertIn(first, unknown)
            self.assertIn(second, unknown)
            self.assertTrue(all(first in chosen or second in chosen for chosen in needed))

    def test_meaning_for_two_items(self):
        for first, second in product(every_row("a", 3), every_row("b", 3)):
            for query in every_query(["a", "b"], 3):
                self.check_by_scenarios([first, second], query)

    def test_meaning_for_three_items(self):
        source = random.Random(41)
        triples = list(product(every_row("a", 3), every_row("b", 3), every_row("c", 3)))
        for triple in source.sample(triples, 60):
            for query in [("sort", ("c", "a", "b")), ("min", ("a", "c", "b")), ("max", ("b", "c", "a"))]:
                self.check_by_scenarios(list(triple), query)

    def test_every_instance_of_three_items(self):
        queries = [("sort", ("c", "a", "b")), ("min", ("a", "c", "b")), ("max", ("b", "c", "a")), ("compare", "c", "a")]
        for triple in product(every_row("a", 3), every_row("b", 3), every_row("c", 3)):
            for query in queries:
                intervals = list(triple)
                self.check(intervals, query, rule_required(intervals, query), rule_pairs(intervals, query))

    def test_random_queries(self):
        source = random.Random(42)
        for _ in range(3000):
            intervals, _ = some_instance(source, source.randint(1, 6))
            query = some_query(source, names_of(intervals))
            self.check(intervals, query, rule_required(intervals, query), rule_pairs(intervals, query))

    def test_none_if_and_only_if_certain(self):
        source = random.Random(43)
        for _ in range(3000):
            intervals, _ = some_instance(source, source.randint(1, 6))
            query = some_query(source, names_of(intervals))
            nothing = not required_items(intervals, query) and not witness_pairs(intervals, query)
            self.assertIs(nothing, is_certain(intervals, query))

    def test_ascending_order(self):
        source = random.Random(44)
        for _ in range(1000):
            intervals, _ = some_instance(source, 6)
            query = some_query(source, names_of(intervals))
            required, pairs = required_items(intervals, query), witness_pairs(intervals, query)
            self.assertEqual(required, sorted(set(required)))
            self.assertEqual(pairs, sorted(set(pairs)))
            self.assertTrue(all(first < second for first, second in pairs))

    def test_great_fractions(self):
        source = random.Random(45)
        for _ in range(400):
            intervals, _ = some_instance(source, source.randint(1, 6))
            query = some_query(source, names_of(intervals))
            for change in great_maps():
                great, asked = map_intervals(change, intervals), map_query(change, query)
                self.check(great, asked, rule_required(intervals, query), rule_pairs(intervals, query))


class Unchanged(unittest.TestCase):
    def test_arguments_stay_the_same(self):
        source = random.Random(46)
        for _ in range(300):
            intervals, _ = some_instance(source, source.randint(1, 5))
            query = some_query(source, names_of(intervals))
            before, kept = copy.deepcopy((intervals, query)), list(intervals)
            required_items(intervals, query)
            witness_pairs(intervals, query)
            self.assertEqual((intervals, query), before)
            self.assertTrue(all(one is two for one, two in zip(intervals, kept, strict=True)))

    def test_arguments_stay_the_same_after_an_error(self):
        for function in (required_items, witness_pairs):
            intervals, query = rows(a=(0, 10), b=(5, 15)), ("above", ("b", "a"), (2, 4))
            with self.assertRaises(QueryError):
                function(intervals, query)
            self.assertEqual((intervals, query), (TWO, ("above", ("b", "a"), (2, 4))))

    def test_results_are_new_lists(self):
        equal = rows(a=(0, 10), b=(0, 10))
        for function in (required_items, witness_pairs):
            for query in [("sort", ("a", "b")), ("min", ("a", "b")), ("above", ("a", "b"), (5, 1)), ("min", ("a",))]:
                first = function(equal, query)
                expected = list(first)
                first.append("z")
                second = function(equal, query)
                self.assertIsNot(first, second)
                self.assertEqual(second, expected)


def sufficient_sets(intervals, query):
    """All sets of unknown items that are sufficient in some scenario."""
    found = set()
    for scenario in all_scenarios(intervals, query[2] if query[0] == "above" else None):
        values = as_values(scenario)
        for names in all_subsets(unknown_names(intervals)):
            if names not in found and is_enough(intervals, [query], values, names):
                found.add(names)
    return found


if __name__ == "__main__":
    unittest.main()
