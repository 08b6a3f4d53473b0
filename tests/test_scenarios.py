"""Point 21, and the interface of doubtwell/scenarios.py; also points 8, 10, 11 and 12 over all scenarios."""

import inspect
import random
import unittest
from fractions import Fraction
from itertools import combinations_with_replacement
from math import prod

from doubtwell import scenarios as module
from doubtwell.certificates import log_totals
from doubtwell.errors import InvalidFraction, InvalidIntervals, InvalidPrice, InvalidQuery, LimitExceeded, UnknownItem
from doubtwell.intervals import reveal
from doubtwell.probing import resolve
from doubtwell.queries import answer, is_certain
from doubtwell.scenarios import scenarios, worst_case
from doubtwell.subsets import is_sufficient
from doubtwell.witnesses import required_items, witness_pairs

from helpers import (
    ErrorCase,
    all_scenarios,
    all_subsets,
    as_values,
    correct_answers,
    exact_bounds,
    names_of,
    row,
    rows,
    some_case,
    some_instance,
    some_single_case,
    unknown_names,
)

TWO = rows(a=(0, 10), b=(5, 15))
COMPARE = [("compare", "a", "b")]
GREAT = 10 ** 39 + 1


def gaps(intervals, name):
    """How many gaps between neighboring bounds lie inside of an item."""
    bounds = exact_bounds(intervals)
    low, high = bounds[name]
    points = {bound for pair in bounds.values() for bound in pair}
    return len([point for point in points if low < point <= high])


def expected_count(intervals):
    """An item over m gaps has m - 1 bounds inside, and in each gap as many points as there are unknown items."""
    unknown = unknown_names(intervals)
    return prod(gaps(intervals, name) * (len(unknown) + 1) - 1 for name in unknown)


def frozen(scenario):
    return tuple(sorted(scenario.items()))


def pattern(intervals, scenario):
    """The order and the ties of all values and bounds."""
    values = [Fraction(*scenario[name]) for name, _, _ in intervals]
    points = values + [Fraction(*bound) for _, low, high in intervals for bound in (low, high)]
    ranks = {point: rank for rank, point in enumerate(sorted(set(points)))}
    return [ranks[point] for point in points]


def spanning(first, others, count):
    """Unknown items from 0 to the given bounds, with known items on each whole number up to a count."""
    made = [row(name, 0, high) for name, high in zip("abcd", [first, *others])]
    return made + [row("k" + "abcdefghijklmnopqrstuvwxyz"[at], at) for at in range(1, count + 1)]


class Interface(ErrorCase):
    def test_examples(self):
        self.assertEqual(scenarios([("a", (0, 1), (1, 1))]), [{"a": (1, 2)}])
        self.assertEqual(worst_case(TWO, COMPARE)[0], 2)

    def test_parameters(self):
        self.assertEqual(str(inspect.signature(scenarios)), "(intervals)")
        self.assertEqual(str(inspect.signature(worst_case)), "(intervals, queries, *, prices=None)")
        for function in (scenarios, worst_case):
            self.assertEqual(function.__module__, module.__name__)
        self.assertEqual(scenarios(intervals=[]), [{}])
        self.assertEqual(worst_case(prices={"a": 3}, queries=COMPARE, intervals=TWO)[0], 4)
        with self.assertRaises(TypeError):
            worst_case(TWO, COMPARE, {"a": 3})

    def test_kinds_of_the_results(self):
        found = scenarios(TWO)
        self.assertIs(type(found), list)
        self.assertEqual({type(scenario) for scenario in found}, {dict})
        found = worst_case(TWO, COMPARE)
        self.assertEqual([type(found)] + [type(part) for part in found], [tuple, int, dict])

    def test_new_objects(self):
        found = scenarios(TWO)
        self.assertEqual(len({id(scenario) for scenario in found}), len(found))
        expected = [dict(scenario) for scenario in found]
        found[0].clear()
        found.pop()
        self.assertEqual(scenarios(TWO), expected)
        price, scenario = worst_case(TWO, COMPARE)
        again = dict(scenario)
        scenario.clear()
        self.assertEqual(worst_case(TWO, COMPARE), (price, again))


class Candidates(ErrorCase):
    def check_same(self, intervals):
        found = self.check_unchanged(scenarios, intervals)
        expected = [as_values(scenario) for scenario in all_scenarios(intervals)]
        self.assertEqual(len(found), expected_count(intervals))
        self.assertEqual(sorted(map(frozen, found)), sorted(map(frozen, expected)))
        self.assertEqual(len(set(map(frozen, found))), len(found))
        for scenario in found:
            self.assertEqual(sorted(scenario), names_of(intervals))
            reveal(intervals, scenario, list(scenario))

    def test_no_unknown_items(self):
        self.assertEqual(scenarios([]), [{}])
        self.assertEqual(scenarios(rows(a=5, b=5)), [{"a": (5, 1), "b": (5, 1)}])
        all_known = [row(letter, at % 3) for at, letter in enumerate("abcdefghijklmnopqrstuvwx")]
        self.assertEqual(scenarios(all_known), [{name: low for name, low, _ in all_known}])

    def test_one_unknown_item(self):
        self.assertEqual(scenarios(rows(a=(0, 1), b=7)), [{"a": (1, 2), "b": (7, 1)}])
        found = scenarios(rows(a=(0, 4), b=1))
        self.assertEqual(sorted(scenario["a"] for scenario in found), [(1, 1), (1, 2), (5, 2)])

    def test_two_unknown_items(self):
        found = scenarios(rows(a=(0, 3), b=(0, 3)))
        points = [(1, 1), (2, 1)]
        expected = [{"a": first, "b": second} for first in points for second in points]
        self.assertEqual(sorted(map(frozen, found)), sorted(map(frozen, expected)))
        # Over two gaps each: the inner bound, and two points in each gap.
        self.assertEqual(len(scenarios(TWO)), 25)
        self.assertEqual(len(scenarios(rows(a=(0, 1), b=(1, 2)))), 4)

    def test_equal_intervals(self):
        for count, expected in [(1, 1), (2, 4), (3, 27), (4, 256)]:
            intervals = [row(letter, 0, 1) for letter in "abcd"[:count]]
            self.check_same(intervals)
            self.assertEqual(len(scenarios(intervals)), expected)
            self.assertEqual(len(scenarios(intervals + rows(k=5, m=7))), expected)

    def test_fractions(self):
        self.check_same([("a", (-1, 3), (1, 2)), ("b", (0, 1), (0, 1)), ("c", (1, 7), (2, 7))])
        self.check_same([("a", (GREAT + 1, 7), (GREAT + 2, 7)), ("b", (GREAT + 1, 7), (GREAT + 3, 7))])

    def test_random_instances(self):
        source = random.Random(211)
        count = 0
        while count < 300:
            intervals, _ = some_instance(source, source.randint(1, 5))
            if expected_count(intervals) <= 3000:
                self.check_same(intervals)
                count += 1


class Limit(ErrorCase):
    def check_limit(self, intervals):
        for call in (lambda: scenarios(intervals), lambda: worst_case(intervals, [])):
            with self.assertRaises(LimitExceeded) as caught:
                call()
            self.assertGreater(caught.exception.count, 3000)
            self.assertEqual(caught.exception.code, "limit")

    def test_counts_around_the_limit(self):
        # Two unknown items over 15 and 23 gaps: 44 times 68. Three over 2, 3 and 10 gaps: 7 times 11 times 39.
        below = spanning(23, [15], 22)
        self.assertEqual(expected_count(below), 2992)
        found = scenarios(below)
        self.assertEqual(len(found), 2992)
        self.assertEqual(len(set(map(frozen, found))), 2992)
        worst_case(below, [("sort", ("a", "b"))])
        above = spanning(10, [3, 2], 9)
        self.assertEqual(expected_count(above), 3003)
        self.check_limit(above)

    def test_no_instance_has_exactly_3000(self):
        for count in range(1, 5):
            factors = [many * (count + 1) - 1 for many in range(1, 48)]
            self.assertNotIn(3000, [prod(chosen) for chosen in combinations_with_replacement(factors, count)])
        self.assertGreater(5 ** 5, 3000)

    def test_equal_intervals(self):
        for count in (5, 6, 24):
            intervals = [row("a" + letter, 0, 1) for letter in "abcdefghijklmnopqrstuvwx"[:count]]
            self.check_limit(intervals)

    def test_many_gaps(self):
        self.check_limit([row("a" + letter, at, 50 + at) for at, letter in enumerate("abcdefghijklmnopqrstuvwx")])
        self.check_limit(spanning(23, [23], 22))


class Representation(unittest.TestCase):
    def test_every_order_has_a_representative(self):
        source = random.Random(212)
        count = 0
        while count < 150:
            intervals, _ = some_instance(source, source.randint(1, 4))
            if expected_count(intervals) > 1500:
                continue
            count += 1
            patterns = [pattern(intervals, scenario) for scenario in scenarios(intervals)]
            for _ in range(10):
                values = {}
                for name, low, high in intervals:
                    points = [Fraction(*low) + (Fraction(*high) - Fraction(*low)) * Fraction(at, 12) for at in range(1, 12)]
                    points += [point for point in map(Fraction, range(low[0] + 1, high[0]))]
                    chosen = Fraction(*low) if low == high else source.choice(points)
                    values[name] = (chosen.numerator, chosen.denominator)
                self.assertIn(pattern(intervals, values), patterns)

    def test_all_unknown_items_between_two_bounds(self):
        intervals = [row(letter, 0, 1) for letter in "abcd"]
        patterns = [pattern(intervals, scenario) for scenario in scenarios(intervals)]
        values = {"a": (1, 100), "b": (1, 101), "c": (1, 99), "d": (99, 100)}
        self.assertIn(pattern(intervals, values), patterns)
        self.assertIn(pattern(intervals, {**values, "d": (1, 99)}), patterns)


class WorstCase(ErrorCase):
    def check_worst(self, intervals, queries, prices):
        price, scenario = self.check_unchanged(worst_case, intervals, queries, prices=prices)
        spent = []
        for values in scenarios(intervals):
            spent.append(log_totals(resolve(intervals, queries, values, prices=prices)[1], prices=prices)[0])
        self.assertEqual(price, max(spent))
        self.assertIn(scenario, scenarios(intervals))
        log = resolve(intervals, queries, scenario, prices=prices)[1]
        self.assertEqual(log_totals(log, prices=prices)[0], price)

    def test_nothing_to_do(self):
        self.assertEqual(worst_case([], []), (0, {}))
        self.assertEqual(worst_case(rows(a=5), [("min", ("a",))]), (0, {"a": (5, 1)}))
        price, scenario = worst_case(TWO, [])
        self.assertEqual(price, 0)
        self.assertIn(scenario, scenarios(TWO))

    def test_two_items(self):
        self.check_worst(TWO, COMPARE, None)
        self.check_worst(TWO, COMPARE, {"a": 1000, "b": 7})
        self.assertEqual(worst_case(TWO, COMPARE, prices={"a": 1000, "b": 7})[0], 1007)
        self.assertEqual(worst_case(TWO, [("above", ("a", "b"), (7, 1))], prices={"b": 7})[0], 8)
        self.assertEqual(worst_case(TWO, [("above", ("a", "b"), (2, 1))], prices={"b": 7})[0], 1)

    def test_random_cases(self):
        source = random.Random(213)
        count = 0
        while count < 150:
            intervals, queries, _, prices = some_case(source, 4, 4)
            if expected_count(intervals) <= 400:
                self.check_worst(intervals, queries, prices)
                count += 1

    def test_no_scenario_is_worse(self):
        source = random.Random(214)
        count = 0
        while count < 150:
            intervals, queries, values, prices = some_case(source, 4, 4)
            if expected_count(intervals) <= 3000:
                log = resolve(intervals, queries, values, prices=prices)[1]
                spent = log_totals(log, prices=prices)[0]
                self.assertLessEqual(spent, worst_case(intervals, queries, prices=prices)[0])
                count += 1


class Errors(ErrorCase):
    def test_order_of_the_checks(self):
        many = [row(letter, 0, 1) for letter in "abcde"]
        asked = [("sort", tuple("abcde"))]
        self.check_error(InvalidIntervals(), scenarios, many[::-1])
        self.check_error(InvalidFraction(), scenarios, many[:4] + [("e", (0, 1), (2, 4))])
        self.check_error(InvalidIntervals(), worst_case, many[::-1], [("sort", ())], prices={"a": 0})
        self.check_error(InvalidQuery(1), worst_case, many, asked + [("sort", ())], prices={"a": 0})
        self.check_error(InvalidPrice("a"), worst_case, many, asked, prices={"a": 0, "x": 1})
        self.check_error(UnknownItem("x"), worst_case, many, asked, prices={"x": 1})
        self.check_error(LimitExceeded(3125), worst_case, many, asked, prices={"a": 1000})


class AllScenarios(unittest.TestCase):
    """Points 8, 10, 11 and 12 in all representative scenarios."""

    def small_cases(self, seed, most, count):
        source = random.Random(seed)
        while count:
            intervals, query, _, _ = some_single_case(source, 4)
            if expected_count(intervals) <= most:
                yield intervals, query, scenarios(intervals)
                count -= 1

    def test_certain_answers_are_correct_in_every_scenario(self):
        found = 0
        for intervals, query, every in self.small_cases(215, 800, 600):
            if is_certain(intervals, query):
                found += 1
                certain = answer(intervals, query)
                for values in every:
                    exact = {name: Fraction(*value) for name, value in values.items()}
                    self.assertIn(certain, correct_answers(query, exact))
        self.assertGreater(found, 100)

    def test_sufficient_sets_include_required_items_and_pairs(self):
        for intervals, query, every in self.small_cases(216, 200, 150):
            required = set(required_items(intervals, query))
            pairs = witness_pairs(intervals, query)
            for values in every:
                for names in map(set, all_subsets(names_of(intervals))):
                    if is_sufficient(intervals, [query], values, sorted(names)):
                        self.assertLessEqual(required, names)
                        self.assertTrue(all(names & set(pair) for pair in pairs))

    def test_other_items_can_be_left_out(self):
        for intervals, query, every in self.small_cases(217, 800, 300):
            required = required_items(intervals, query)
            for name in unknown_names(intervals):
                rest = [other for other in names_of(intervals) if other != name]
                enough = any(is_sufficient(intervals, [query], values, rest) for values in every)
                self.assertIs(enough, name not in required)


if __name__ == "__main__":
    unittest.main()
