"""Points 4, 8, 10, 11, 12, 13 and 16 together: what stays the same if all values change or more is known."""

import random
import unittest
from fractions import Fraction

from doubtwell.certificates import check_log
from doubtwell.intervals import reveal
from doubtwell.optimum import cheapest, proven_bound
from doubtwell.probing import all_certain, resolve
from doubtwell.queries import answer, is_certain
from doubtwell.subsets import cheapest_subset, is_sufficient
from doubtwell.witnesses import required_items, witness_pairs

from helpers import (
    as_pair,
    names_of,
    query_names,
    some_case,
    some_single_case,
    unknown_names,
)

TURNED = {"min": "max", "max": "min", "compare": "compare", "sort": "sort"}


def negated(value):
    return (-value[0], value[1])


def turned(intervals):
    return [(name, negated(high), negated(low)) for name, low, high in intervals]


def turned_values(values):
    return {name: negated(value) for name, value in values.items()}


def moved(value, factor, offset):
    return as_pair(Fraction(*value) * factor + offset)


def moved_query(query, factor, offset):
    return (*query[:2], moved(query[2], factor, offset)) if query[0] == "above" else query


class Negation(unittest.TestCase):
    """With all values negated, "min" and "max" exchange, and "sort" and "compare" keep their items and prices."""

    def some_case(self, source):
        while True:
            intervals, query, values, prices = some_single_case(source)
            if query[0] != "above":
                return intervals, query, values, prices

    def test_required_items_pairs_and_prices(self):
        source = random.Random(31)
        for _ in range(1500):
            intervals, query, values, prices = self.some_case(source)
            other, asked = turned(intervals), (TURNED[query[0]], *query[1:])
            self.assertEqual(required_items(other, asked), required_items(intervals, query))
            self.assertEqual(witness_pairs(other, asked), witness_pairs(intervals, query))
            self.assertIs(is_certain(other, asked), is_certain(intervals, query))
            price, names, certificate = cheapest(intervals, query, values, prices=prices)
            found = cheapest(other, asked, turned_values(values), prices=prices)
            self.assertEqual(found[0], price)
            if query[0] in ("min", "max"):
                self.assertEqual(found, (price, names, certificate))
            subset = cheapest_subset(intervals, [query], values, prices=prices)
            self.assertEqual(cheapest_subset(other, [asked], turned_values(values), prices=prices), subset)

    def test_logs_and_answers(self):
        source = random.Random(32)
        for _ in range(800):
            intervals, query, values, prices = self.some_case(source)
            other, asked = turned(intervals), (TURNED[query[0]], *query[1:])
            final, log = resolve(intervals, [query], values, prices=prices)
            found, steps = resolve(other, [asked], turned_values(values), prices=prices)
            self.assertEqual(found, turned(final))
            self.assertEqual(steps, [(*entry[:-1], negated(entry[-1])) for entry in log])
            self.assertIsNone(check_log(other, [asked], steps, prices=prices))
            if query[0] in ("min", "max"):
                self.assertEqual(answer(found, asked), answer(final, query))


class Movement(unittest.TestCase):
    """Multiplying all values by a positive fraction and adding a constant changes only the values."""

    def test_moved_values(self):
        source = random.Random(33)
        for _ in range(800):
            intervals, queries, values, prices = some_case(source, 6, 4)
            factor = Fraction(source.randint(1, 50), source.randint(1, 50))
            offset = Fraction(source.randint(-500, 500), source.randint(1, 50))
            other = [(x, moved(low, factor, offset), moved(high, factor, offset)) for x, low, high in intervals]
            asked = [moved_query(query, factor, offset) for query in queries]
            given = {name: moved(value, factor, offset) for name, value in values.items()}
            final, log = resolve(intervals, queries, values, prices=prices)
            found, steps = resolve(other, asked, given, prices=prices)
            self.assertEqual(steps, [(*entry[:-1], moved(entry[-1], factor, offset)) for entry in log])
            self.assertIsNone(check_log(other, asked, steps, prices=prices))
            for query, same in zip(queries, asked):
                self.assertEqual(answer(found, same), answer(final, query))
                self.assertEqual(required_items(other, same), required_items(intervals, query))
                self.assertEqual(witness_pairs(other, same), witness_pairs(intervals, query))
                expected = cheapest(intervals, query, values, prices=prices)
                self.assertEqual(cheapest(other, same, given, prices=prices), expected)
                self.assertEqual(proven_bound(other, same, given, expected[2], prices=prices), expected[0])
            expected = cheapest_subset(intervals, queries, values, prices=prices)
            self.assertEqual(cheapest_subset(other, asked, given, prices=prices), expected)


class FurtherProbes(unittest.TestCase):
    def test_certain_queries_stay_certain(self):
        source = random.Random(34)
        for _ in range(800):
            intervals, queries, values, _ = some_case(source)
            names = source.sample(names_of(intervals), source.randint(0, len(intervals)))
            before = reveal(intervals, values, names)
            after = reveal(before, values, [source.choice(names_of(intervals))])
            for query in queries:
                if is_certain(before, query):
                    self.assertIs(is_certain(after, query), True)
            if all_certain(before, queries):
                self.assertIs(all_certain(after, queries), True)

    def test_sufficient_sets_stay_sufficient(self):
        source = random.Random(35)
        for _ in range(800):
            intervals, queries, values, _ = some_case(source)
            names = source.sample(names_of(intervals), source.randint(0, len(intervals)))
            if is_sufficient(intervals, queries, values, names):
                more = names + [source.choice(names_of(intervals))]
                self.assertIs(is_sufficient(intervals, queries, values, more), True)


class KnownItems(unittest.TestCase):
    def test_known_items_cost_nothing(self):
        """They are never charged or probed, and are in no cheapest set."""
        source = random.Random(36)
        for _ in range(800):
            intervals, queries, values, prices = some_case(source, 6, 4)
            known = set(names_of(intervals)) - set(unknown_names(intervals))
            for entry in resolve(intervals, queries, values, prices=prices)[1]:
                self.assertFalse(known & {part for part in entry[1:] if isinstance(part, str)})
            self.assertFalse(known & set(cheapest_subset(intervals, queries, values, prices=prices)[1]))
            for query in queries:
                self.assertFalse(known & set(cheapest(intervals, query, values, prices=prices)[1]))
                self.assertFalse(known & set(required_items(intervals, query)))
                self.assertFalse(known & {name for pair in witness_pairs(intervals, query) for name in pair})

    def test_items_of_known_values_only(self):
        source = random.Random(37)
        for _ in range(300):
            intervals, query, values, prices = some_single_case(source)
            final = reveal(intervals, values, list(query_names(query)))
            self.assertIs(is_certain(final, query), True)
            self.assertEqual(cheapest(final, query, values, prices=prices)[:2], (0, []))
            self.assertEqual(resolve(final, [query], {}, prices=prices), (final, []))


if __name__ == "__main__":
    unittest.main()
