"""Points 22 and 23, and the interface of doubtwell/adversary.py."""

import inspect
import random
import unittest
from fractions import Fraction
from itertools import permutations

from doubtwell import adversary as module
from doubtwell.adversary import adversary_values, hard_instance, probe_in_order
from doubtwell.errors import (
    InvalidBounds,
    InvalidFraction,
    InvalidIntervals,
    InvalidQuery,
    InvalidValue,
    MissingValue,
    UnknownItem,
)
from doubtwell.intervals import reveal
from doubtwell.optimum import cheapest
from doubtwell.queries import is_certain
from doubtwell.subsets import is_sufficient

from helpers import NOT_FRACTIONS, ErrorCase, is_enough, names_of, parts_of, rows, rule_certain, some_case

ALPHABET = "abcdefghijkl"
TWO = rows(a=(0, 10), b=(5, 15))
COMPARE = [("compare", "a", "b")]
VALUES = {"a": (7, 1), "b": (12, 1)}


class HardInstance(ErrorCase):
    def test_examples(self):
        self.assertEqual(hard_instance(pairs=1), (rows(la=(0, 4), ra=(2, 6)), ("sort", ("la", "ra"))))
        self.check_error(InvalidBounds(), hard_instance, pairs=13)

    def test_parameters(self):
        self.assertEqual(str(inspect.signature(hard_instance)), "(*, pairs=3)")
        self.assertEqual(hard_instance.__module__, module.__name__)
        self.assertEqual(hard_instance(), hard_instance(pairs=3))
        with self.assertRaises(TypeError):
            hard_instance(3)

    def test_every_number_of_pairs(self):
        for pairs in range(1, 13):
            left = [("l" + ALPHABET[k], (10 * k, 1), (10 * k + 4, 1)) for k in range(pairs)]
            right = [("r" + ALPHABET[k], (10 * k + 2, 1), (10 * k + 6, 1)) for k in range(pairs)]
            intervals, query = hard_instance(pairs=pairs)
            self.assertEqual(intervals, left + right)
            self.assertEqual(query, ("sort", tuple(names_of(intervals))))
            self.assertIs(is_certain(intervals, query), False)

    def test_kinds_of_the_result(self):
        found = hard_instance()
        self.assertEqual([type(found)] + [type(part) for part in found], [tuple, list, tuple])
        self.assertEqual({type(entry) for entry in found[0]}, {tuple})

    def test_numbers_out_of_range(self):
        for pairs in (0, -1, 13, 14, 26, 27, 10 ** 39, -(10 ** 39)):
            self.check_error(InvalidBounds(), hard_instance, pairs=pairs)

    def test_new_objects(self):
        expected = hard_instance()
        hard_instance()[0].clear()
        self.assertEqual(hard_instance(), expected)


class AdversaryValues(ErrorCase):
    def check_values(self, order, pairs):
        """The first item of each pair lies inside of both intervals, and the other one outside of the first one's."""
        intervals, query = hard_instance(pairs=pairs)
        values = self.check_unchanged(adversary_values, order, pairs=pairs)
        self.assertIs(type(values), dict)
        self.assertEqual(sorted(values), names_of(intervals))
        reveal(intervals, values, list(values))
        exact = {name: Fraction(*value) for name, value in values.items()}
        bounds = {name: (Fraction(*low), Fraction(*high)) for name, low, high in intervals}
        second = []
        for letter in ALPHABET[:pairs]:
            pair = ["l" + letter, "r" + letter]
            first = ([name for name in order if name in pair] + pair)[0]
            other = [name for name in pair if name != first][0]
            second.append(other)
            for name in pair:
                self.assertTrue(bounds[name][0] < exact[first] < bounds[name][1])
            self.assertFalse(bounds[first][0] < exact[other] < bounds[first][1])
        # One item of each pair is sufficient.
        self.assertTrue(is_enough(intervals, [query], values, second))
        self.assertEqual(cheapest(intervals, query, values)[:2], (pairs, sorted(second)))
        # The order never makes the query certain, or probes all items.
        probed = probe_in_order(intervals, [query], values, order)
        if probed is None:
            self.assertFalse(is_enough(intervals, [query], values, order))
            self.assertLess(len(set(order)), 2 * pairs)
        else:
            self.assertEqual(sorted(probed), names_of(intervals))

    def test_example(self):
        order = ["ra", "la"]
        intervals, query = hard_instance(pairs=1)
        values = adversary_values(order, pairs=1)
        self.assertEqual(probe_in_order(intervals, [query], values, order), ["ra", "la"])

    def test_parameters(self):
        self.assertEqual(str(inspect.signature(adversary_values)), "(order, *, pairs=3)")
        self.assertEqual(adversary_values.__module__, module.__name__)
        self.assertEqual(adversary_values(order=["rb"]), adversary_values(["rb"], pairs=3))
        with self.assertRaises(TypeError):
            adversary_values(["rb"], 3)

    def test_all_orders_of_two_pairs(self):
        for size in range(5):
            for order in permutations(["la", "lb", "ra", "rb"], size):
                self.check_values(list(order), 2)

    def test_missing_names_and_duplicates(self):
        self.check_values([], 1)
        self.check_values([], 12)
        self.check_values(["ra", "ra"], 1)
        self.check_values(["rb", "la", "rb", "la", "ra", "lb"], 3)

    def test_random_orders(self):
        source = random.Random(231)
        for _ in range(300):
            pairs = source.randint(1, 12)
            names = names_of(hard_instance(pairs=pairs)[0])
            self.check_values(source.choices(names, k=source.randrange(3 * pairs)), pairs)
            self.check_values(source.sample(names, 2 * pairs), pairs)

    def test_errors(self):
        for pairs in (0, 13, -5):
            self.check_error(InvalidBounds(), adversary_values, ["x"], pairs=pairs)
        for name in ("lb", "a", "", "l", "LA", "lala"):
            self.check_error(UnknownItem(name), adversary_values, ["la", name, "x"], pairs=1)
        self.check_error(UnknownItem("ld"), adversary_values, ["lc", "ld"])
        self.check_error(UnknownItem("rc"), adversary_values, ["rb", "rc", "lz"], pairs=2)

    def test_new_objects(self):
        expected = adversary_values(["ra"])
        adversary_values(["ra"]).clear()
        self.assertEqual(adversary_values(["ra"]), expected)


class ProbeInOrder(ErrorCase):
    def test_example(self):
        self.assertEqual(probe_in_order(TWO, COMPARE, VALUES, ["b", "a"]), ["b"])

    def test_parameters(self):
        self.assertEqual(str(inspect.signature(probe_in_order)), "(intervals, queries, values, order)")
        self.assertEqual(probe_in_order.__module__, module.__name__)
        found = probe_in_order(order=["b", "a"], values=VALUES, queries=COMPARE, intervals=TWO)
        self.assertEqual(found, ["b"])

    def test_until_all_queries_are_certain(self):
        self.assertEqual(probe_in_order(TWO, COMPARE, VALUES, ["a", "b"]), ["a", "b"])
        self.assertIsNone(probe_in_order(TWO, COMPARE, VALUES, ["a"]))
        self.assertIsNone(probe_in_order(TWO, COMPARE, VALUES, []))
        queries = COMPARE + [("above", ("a",), (6, 1))]
        self.assertEqual(probe_in_order(TWO, queries, VALUES, ["b", "a"]), ["b", "a"])
        self.assertIsNone(probe_in_order(TWO, queries, VALUES, ["b"]))

    def test_certain_from_the_beginning(self):
        self.assertEqual(probe_in_order(TWO, [], {}, ["a", "b"]), [])
        self.assertEqual(probe_in_order(TWO, [("min", ("a",))], {}, ["a"]), [])
        self.assertEqual(probe_in_order([], [], {}, []), [])

    def test_duplicates(self):
        self.assertEqual(probe_in_order(TWO, COMPARE, VALUES, ["a", "a", "b", "a"]), ["a", "b"])
        self.assertIsNone(probe_in_order(TWO, COMPARE, VALUES, ["a", "a", "a"]))

    def test_known_items(self):
        intervals = rows(a=(0, 10), b=5, c=(20, 30))
        values = {"a": (7, 1), "b": (5, 1), "c": (21, 1)}
        self.assertEqual(probe_in_order(intervals, COMPARE, values, ["b", "c", "a"]), ["b", "c", "a"])
        self.assertEqual(probe_in_order(intervals, COMPARE, values, ["a", "b"]), ["a"])
        self.assertIsNone(probe_in_order(intervals, COMPARE, values, ["b", "c"]))
        self.check_error(MissingValue("b"), probe_in_order, intervals, COMPARE, {"a": (7, 1)}, ["b", "a"])
        self.check_error(InvalidValue("b"), probe_in_order, intervals, COMPARE, {"b": (6, 1)}, ["b", "a"])
        self.check_error(InvalidFraction(), probe_in_order, intervals, COMPARE, {"b": (10, 2)}, ["b", "a"])

    def test_unknown_names_before_any_probe(self):
        for name in ("c", "", "A", "abcdefgh"):
            for order in ([name], ["a", name], ["b", "a", name, "x"]):
                self.check_error(UnknownItem(name), probe_in_order, TWO, COMPARE, {}, order)
        self.check_error(UnknownItem("z"), probe_in_order, TWO, COMPARE, {"a": (2, 4)}, ["a", "z", "c"])
        self.check_error(UnknownItem("z"), probe_in_order, TWO, [], {}, ["z"])

    def test_values_of_probed_items(self):
        self.check_error(MissingValue("b"), probe_in_order, TWO, COMPARE, {"a": (2, 4)}, ["b", "a"])
        self.check_error(MissingValue("b"), probe_in_order, TWO, COMPARE, {"a": (7, 1)}, ["a", "b"])
        for value in NOT_FRACTIONS:
            self.check_error(InvalidFraction(), probe_in_order, TWO, COMPARE, {"a": value, "b": (99, 1)}, ["a", "b"])
        for value in [(0, 1), (10, 1), (11, 1)]:
            self.check_error(InvalidValue("a"), probe_in_order, TWO, COMPARE, {"a": value, "b": (2, 4)}, ["a", "b"])

    def test_other_values_are_not_read(self):
        for value in [(2, 4), (99, 1), (1, 0)]:
            values = {"b": (12, 1), "a": value, "z": value}
            self.assertEqual(probe_in_order(TWO, COMPARE, values, ["b", "a"]), ["b"])
        self.assertEqual(probe_in_order(TWO, COMPARE, {"b": (12, 1)}, ["b", "a"]), ["b"])

    def test_order_of_the_checks(self):
        call = probe_in_order
        self.check_error(InvalidIntervals(), call, TWO[::-1], [("sort", ())], {}, ["z"])
        self.check_error(InvalidQuery(0), call, TWO, [("sort", ())], {}, ["z"])
        self.check_error(InvalidQuery(8), call, TWO, COMPARE * 9, {}, ["z"])
        self.check_error(InvalidFraction(), call, TWO, [("above", ("a",), (2, 4))], {}, ["z"])

    def test_random_orders(self):
        source = random.Random(232)
        for _ in range(800):
            intervals, queries, values, _ = some_case(source)
            names = names_of(intervals)
            order = source.choices(names, k=source.randrange(8))
            expected, done = [], all(rule_certain(intervals, query) for query in queries)
            for name in order:
                if name not in expected and not done:
                    expected.append(name)
                    done = is_enough(intervals, queries, values, expected)
            found = self.check_unchanged(probe_in_order, intervals, queries, values, order)
            self.assertEqual(found, expected if done else None)
            self.assertNotIn(id(order), [id(part) for part in parts_of(found)])
            if found is not None:
                self.assertIs(is_sufficient(intervals, queries, values, found), True)

    def test_a_new_list(self):
        order = ["b"]
        found = probe_in_order(TWO, COMPARE, VALUES, order)
        found.append("z")
        self.assertEqual(order, ["b"])
        self.assertEqual(probe_in_order(TWO, COMPARE, VALUES, order), ["b"])


if __name__ == "__main__":
    unittest.main()
