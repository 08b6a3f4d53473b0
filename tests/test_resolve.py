"""Points 2, 3, 5, 6, 11, 13 and 14, and `resolve` in the interface of doubtwell/probing.py."""

import copy
import inspect
import random
import unittest
from fractions import Fraction

from doubtwell import probing as module
from doubtwell.errors import (
    InvalidFraction,
    InvalidIntervals,
    InvalidPrice,
    InvalidQuery,
    InvalidValue,
    MissingValue,
    NotFound,
    QueryError,
    UnknownItem,
)
from doubtwell.probing import all_certain, resolve
from doubtwell.queries import answer

from helpers import (
    NOT_FRACTIONS,
    cheapest_price,
    correct_answers,
    entry_amount,
    entry_probed,
    great_maps,
    is_enough,
    map_intervals,
    map_log,
    map_query,
    map_values,
    names_of,
    probe_all,
    replay,
    row,
    rows,
    rule_certain,
    some_case,
    some_instance,
    some_prices,
    unknown_names,
    whole,
)

TWO = rows(a=(0, 10), b=(5, 15))
COMPARE = [("compare", "a", "b")]
VALUES = {"a": (7, 1), "b": (12, 1)}


class ResolveCase(unittest.TestCase):
    def check_error(self, kind, name, *arguments, **more):
        with self.assertRaises((QueryError, NotFound)) as caught:
            resolve(*arguments, **more)
        self.assertIs(type(caught.exception), kind)
        self.assertEqual(getattr(caught.exception, "name", None), name)


class Interface(ResolveCase):
    def test_example(self):
        log = [("pair", "a", "b", 1, "a", (7, 1)), ("required", "b", 0, (12, 1))]
        self.assertEqual(resolve(TWO, COMPARE, VALUES), (rows(a=7, b=12), log))

    def test_parameters(self):
        self.assertEqual(str(inspect.signature(resolve)), "(intervals, queries, values, *, prices=None)")
        self.assertEqual(resolve.__module__, module.__name__)
        expected = resolve(TWO, COMPARE, VALUES, prices={"a": 3})
        self.assertEqual(resolve(prices={"a": 3}, values=VALUES, queries=COMPARE, intervals=TWO), expected)

    def test_prices_by_keyword_only(self):
        with self.assertRaises(TypeError):
            resolve(TWO, COMPARE, VALUES, {"a": 3})

    def test_kinds_of_the_result(self):
        result = resolve(TWO, COMPARE, VALUES)
        self.assertEqual([type(part) for part in result], [list, list])
        self.assertIs(type(result), tuple)
        for entry in result[0] + result[1]:
            self.assertIs(type(entry), tuple)
        self.assertEqual([type(part) for part in result[1][0]], [str, str, str, int, str, tuple])
        self.assertEqual([type(part) for part in result[1][1]], [str, str, int, tuple])


class Steps(ResolveCase):
    def check_log(self, intervals, queries, values, prices, log):
        values = {name: whole(value) for name, value in values.items()}
        final, found = resolve(intervals, queries, values, prices=prices)
        self.assertEqual(found, log)
        self.assertEqual(final, probe_all(intervals, values, [entry_probed(entry) for entry in log]))

    def test_nothing_to_do(self):
        self.check_log(TWO, [], {}, None, [])
        self.check_log([], [], {}, None, [])
        self.check_log(TWO, [("above", ("a", "b"), (20, 1)), ("min", ("a",))], {}, {"a": 5}, [])

    def test_the_smallest_required_name_first(self):
        intervals = rows(a=(0, 10), b=(0, 10), c=(20, 30))
        queries = [("above", ("c", "b"), (25, 1)), ("sort", ("b", "a"))]
        log = [("required", "a", 4, (3, 1)), ("required", "b", 1, (6, 1)), ("required", "c", 9, (22, 1))]
        self.check_log(intervals, queries, {"a": 3, "b": 6, "c": 22}, {"a": 4, "c": 9}, log)

    def test_required_items_of_later_queries_come_before_pairs(self):
        intervals = rows(a=(0, 10), b=(5, 15), c=(0, 4))
        queries = [("compare", "a", "b"), ("above", ("c",), (2, 1))]
        log = [("required", "c", 1, (3, 1)), ("pair", "a", "b", 1, "a", (2, 1))]
        self.check_log(intervals, queries, {"a": 2, "b": 8, "c": 3}, None, log)

    def test_the_cheaper_item_of_a_pair_is_probed(self):
        self.check_log(TWO, COMPARE, {"a": 7, "b": 12}, {"a": 4}, [("pair", "a", "b", 1, "b", (12, 1))])
        log = [("pair", "a", "b", 1, "b", (8, 1)), ("required", "a", 3, (7, 1))]
        self.check_log(TWO, COMPARE, {"a": 7, "b": 8}, {"a": 4}, log)
        log = [("pair", "a", "b", 2, "a", (7, 1)), ("required", "b", 3, (12, 1))]
        self.check_log(TWO, COMPARE, {"a": 7, "b": 12}, {"a": 2, "b": 5}, log)

    def test_equal_prices_probe_the_first_item(self):
        self.check_log(TWO, COMPARE, {"a": 3, "b": 12}, {"a": 6, "b": 6}, [("pair", "a", "b", 6, "a", (3, 1))])

    def test_the_smallest_pair_of_any_query(self):
        intervals = rows(a=(0, 10), b=(5, 15), c=(20, 30), d=(25, 35))
        queries = [("compare", "d", "c"), ("sort", ("b", "a"))]
        log = [("pair", "a", "b", 1, "a", (1, 1)), ("pair", "c", "d", 1, "c", (21, 1))]
        self.check_log(intervals, queries, {"a": 1, "b": 6, "c": 21, "d": 33}, None, log)

    def test_pairs_are_compared_by_both_names(self):
        intervals = rows(a=(0, 10), b=(5, 15), c=(6, 20))
        queries = [("compare", "c", "a"), ("compare", "b", "a")]
        log = [("pair", "a", "b", 1, "b", (12, 1)), ("pair", "a", "c", 1, "a", (1, 1))]
        self.check_log(intervals, queries, {"a": 1, "b": 12, "c": 11}, {"a": 2}, log)

    def test_a_pair_with_a_remaining_price_of_zero(self):
        intervals = rows(a=(0, 10), b=(5, 15), c=(12, 20))
        query = [("sort", ("a", "b", "c"))]
        log = [
            ("pair", "a", "b", 1, "a", (2, 1)),
            ("pair", "b", "c", 0, "b", (14, 1)),
            ("required", "c", 1, (13, 1)),
        ]
        self.check_log(intervals, query, {"a": 2, "b": 14, "c": 13}, None, log)
        log = [
            ("pair", "a", "b", 3, "a", (2, 1)),
            ("pair", "b", "c", 4, "b", (11, 1)),
        ]
        self.check_log(intervals, query, {"a": 2, "b": 11, "c": 13}, {"a": 3, "b": 7, "c": 9}, log)

    def test_min_and_max(self):
        intervals = rows(a=(0, 10), b=(5, 15), c=(6, 9))
        log = [("pair", "a", "b", 1, "a", (7, 1)), ("required", "b", 0, (6, 1))]
        self.check_log(intervals, [("min", ("a", "b"))], {"a": 7, "b": 6}, None, log)
        log = [("required", "a", 1, (8, 1)), ("required", "b", 1, (7, 1)), ("required", "c", 1, (8, 1))]
        self.check_log(intervals, [("min", ("a", "b", "c"))], {"a": 8, "b": 7, "c": 8}, None, log)
        log = [("pair", "a", "b", 1, "a", (7, 1))]
        self.check_log(rows(a=(0, 10), b=(9, 15)), [("max", ("a", "b"))], {"a": 7}, None, log)

    def test_known_items_are_never_probed(self):
        log = [("required", "a", 1, (6, 1))]
        self.check_log(rows(a=(0, 10), b=5), COMPARE, {"a": 6}, None, log)

    def test_highest_prices(self):
        log = [("pair", "a", "b", 1000, "a", (7, 1)), ("required", "b", 0, (12, 1))]
        self.check_log(TWO, COMPARE, {"a": 7, "b": 12}, {"a": 1000, "b": 1000}, log)

    def test_default_prices(self):
        expected = resolve(TWO, COMPARE, VALUES)
        for prices in (None, {}, {"a": 1}, {"b": 1}, {"b": 1, "a": 1}):
            self.assertEqual(resolve(TWO, COMPARE, VALUES, prices=prices), expected)

    def test_all_items(self):
        names = ["a" + letter for letter in "abcdefghijklmnopqrstuvwx"]
        intervals = [row(name, 2 * at, 2 * at + 3) for at, name in enumerate(names)]
        values = {name: whole(2 * at + 1 + at % 2) for at, name in enumerate(names)}
        queries = [("sort", tuple(names))] * 8
        final, log, _ = replay(intervals, queries, values)
        self.assertEqual(resolve(intervals, queries, values), (final, log))
        equal = [row(name, 0, 50) for name in names]
        log = [("required", name, 1, values[name]) for name in names]
        self.assertEqual(resolve(equal, queries, values), (probe_all(equal, values, names), log))


class Rules(ResolveCase):
    def test_replay(self):
        source = random.Random(51)
        for _ in range(2000):
            intervals, queries, values, prices = some_case(source, 6, 8)
            final, log, _ = replay(intervals, queries, values, prices)
            self.assertEqual(resolve(intervals, queries, values, prices=prices), (final, log))

    def test_replay_of_one_query(self):
        source = random.Random(52)
        for _ in range(2000):
            intervals, queries, values, prices = some_case(source, 6, 1)
            final, log, _ = replay(intervals, queries, values, prices)
            self.assertEqual(resolve(intervals, queries, values, prices=prices), (final, log))

    def test_the_answers_are_certain_and_correct(self):
        source = random.Random(53)
        for _ in range(800):
            intervals, queries, values, prices = some_case(source)
            final, _ = resolve(intervals, queries, values, prices=prices)
            self.assertIs(all_certain(final, queries), True)
            scenario = {name: Fraction(*value) for name, value in values.items()}
            for query in queries:
                self.assertTrue(rule_certain(final, query))
                self.assertIn(answer(final, query), correct_answers(query, scenario))

    def test_only_unknown_items_are_probed_once(self):
        source = random.Random(54)
        for _ in range(800):
            intervals, queries, values, prices = some_case(source)
            final, log = resolve(intervals, queries, values, prices=prices)
            probed = [entry_probed(entry) for entry in log]
            self.assertEqual(len(set(probed)), len(probed))
            self.assertLessEqual(set(probed), set(unknown_names(intervals)))
            self.assertEqual(final, probe_all(intervals, values, probed))
            self.assertEqual([entry[-1] for entry in log], [values[name] for name in probed])

    def test_no_query_was_certain_before_the_last_probe(self):
        source = random.Random(55)
        for _ in range(400):
            intervals, queries, values, prices = some_case(source)
            probed = [entry_probed(entry) for entry in resolve(intervals, queries, values, prices=prices)[1]]
            for count in range(len(probed)):
                self.assertFalse(is_enough(intervals, queries, values, probed[:count]))

    def test_spent_price_and_total_charge(self):
        """Point 14: the total charge is at most the cheapest price, and the spent price at most twice the charge."""
        source = random.Random(56)
        for _ in range(600):
            intervals, queries, values, prices = some_case(source)
            log = resolve(intervals, queries, values, prices=prices)[1]
            spent = sum((prices or {}).get(entry_probed(entry), 1) for entry in log)
            charge = sum(entry_amount(entry) for entry in log)
            self.assertLessEqual(charge, cheapest_price(intervals, queries, values, prices))
            self.assertLessEqual(spent, 2 * charge)
            if all(entry[0] == "required" for entry in log):
                self.assertEqual(spent, charge)

    def test_above_queries(self):
        """Points 11 and 14: exactly the items around the threshold are probed, which is the cheapest way."""
        source = random.Random(57)
        for _ in range(600):
            intervals, values = some_instance(source, source.randint(1, 6))
            names, prices = names_of(intervals), some_prices(source, names_of(intervals))
            queries = []
            for _ in range(source.randint(1, 3)):
                chosen = tuple(source.sample(names, source.randint(1, len(names))))
                queries.append(("above", chosen, whole(source.randrange(14))))
            inside = set()
            for _, chosen, (threshold, _) in queries:
                inside |= {name for name, low, high in intervals if name in chosen and low[0] < threshold < high[0]}
            final, log = resolve(intervals, queries, values, prices=prices)
            full = {name: (prices or {}).get(name, 1) for name in names}
            self.assertEqual(log, [("required", name, full[name], values[name]) for name in sorted(inside)])
            self.assertEqual(final, probe_all(intervals, values, inside))
            spent = sum(full[name] for name in inside)
            self.assertEqual(spent, cheapest_price(intervals, queries, values, prices))

    def test_great_fractions(self):
        source = random.Random(58)
        for _ in range(300):
            intervals, queries, values, prices = some_case(source)
            final, log, _ = replay(intervals, queries, values, prices)
            for change in great_maps():
                asked = [map_query(change, query) for query in queries]
                great = map_intervals(change, intervals)
                found = resolve(great, asked, map_values(change, values), prices=prices)
                self.assertEqual(found, (map_intervals(change, final), map_log(change, log)))


class Values(ResolveCase):
    """Points 5 and 13: only the values of probed items are read, in the order of the probes."""

    def test_missing_values(self):
        self.check_error(MissingValue, "a", TWO, COMPARE, {})
        self.check_error(MissingValue, "b", TWO, COMPARE, {"a": (7, 1)})
        self.check_error(MissingValue, "b", TWO, COMPARE, {}, prices={"a": 2})

    def test_impossible_values(self):
        for value in [(0, 1), (10, 1), (-1, 1), (11, 1), (10 ** 39, 1)]:
            self.check_error(InvalidValue, "a", TWO, COMPARE, {"a": value, "b": (12, 1)})
        for value in [(5, 1), (15, 1), (4, 1)]:
            self.check_error(InvalidValue, "b", TWO, COMPARE, {"a": (7, 1), "b": value})

    def test_malformed_values(self):
        for value in NOT_FRACTIONS:
            self.check_error(InvalidFraction, None, TWO, COMPARE, {"a": value, "b": (12, 1)})
            self.check_error(InvalidFraction, None, TWO, COMPARE, {"a": (7, 1), "b": value})

    def test_values_that_are_not_read(self):
        for value in [(99, 1), (2, 4), (5, 1)]:
            final, log = resolve(TWO, COMPARE, {"a": (3, 1), "b": value, "zz": (1, 0)})
            self.assertEqual(final, rows(a=3, b=(5, 15)))
            self.assertEqual(log, [("pair", "a", "b", 1, "a", (3, 1))])
        self.assertEqual(resolve(rows(a=(0, 10), b=5), COMPARE, {"a": (6, 1), "b": (7, 1)})[0], rows(a=6, b=5))

    def test_only_probed_items_need_a_value(self):
        source = random.Random(61)
        for _ in range(500):
            intervals, queries, values, prices = some_case(source)
            final, log, order = replay(intervals, queries, values, prices)
            needed = {name: values[name] for name in order}
            self.assertEqual(resolve(intervals, queries, needed, prices=prices), (final, log))
            bad = {name: source.choice([(2, 4), (99, 1), (1, 0)]) for name in values}
            self.assertEqual(resolve(intervals, queries, {**bad, **needed}, prices=prices), (final, log))

    def test_the_first_bad_value_in_the_order_of_the_probes(self):
        source = random.Random(62)
        count = 0
        while count < 500:
            intervals, queries, values, prices = some_case(source, 6)
            order = replay(intervals, queries, values, prices)[2]
            broken = [name for name in order if source.random() < 0.5]
            if not broken:
                continue
            count += 1
            defects = {name: source.choice([None, (2, 4), (99, 1), (-99, 1)]) for name in broken}
            given = {name: defects.get(name, value) for name, value in values.items() if defects.get(name, value)}
            first = broken[0]
            if defects[first] is None:
                self.check_error(MissingValue, first, intervals, queries, given, prices=prices)
            elif defects[first] == (2, 4):
                self.check_error(InvalidFraction, None, intervals, queries, given, prices=prices)
            else:
                self.check_error(InvalidValue, first, intervals, queries, given, prices=prices)

    def test_the_order_of_the_probes_is_not_the_order_of_the_names(self):
        values = {"a": (2, 4), "b": (99, 1)}
        self.check_error(InvalidValue, "b", TWO, COMPARE, values, prices={"a": 2})
        self.check_error(InvalidFraction, None, TWO, COMPARE, values, prices={"b": 2})


class Prices(ResolveCase):
    """Point 6."""

    def test_unknown_items(self):
        for name in ("c", "A", "", "aa", "abcdefgh"):
            self.check_error(UnknownItem, name, TWO, COMPARE, VALUES, prices={name: 1})
            self.check_error(UnknownItem, name, TWO, COMPARE, VALUES, prices={name: 0})

    def test_prices_out_of_range(self):
        for price in (0, -1, -1000, 1001, 10 ** 39, -(10 ** 39)):
            for name in ("a", "b"):
                self.check_error(InvalidPrice, name, TWO, COMPARE, VALUES, prices={name: price})

    def test_prices_at_the_ends_of_the_range(self):
        for price in (1, 2, 999, 1000):
            self.assertEqual(len(resolve(TWO, COMPARE, VALUES, prices={"a": price, "b": price})[1]), 2)

    def test_prices_of_all_items_are_checked(self):
        intervals = rows(a=(0, 10), b=(5, 15), c=3)
        self.check_error(InvalidPrice, "c", intervals, COMPARE, VALUES, prices={"c": 0})
        self.check_error(InvalidPrice, "b", intervals, [], {}, prices={"b": 1001})
        self.check_error(UnknownItem, "d", intervals, [], {}, prices={"d": 5})

    def test_the_smallest_name_comes_first(self):
        self.check_error(InvalidPrice, "a", TWO, COMPARE, VALUES, prices={"c": 1, "b": 0, "a": 0})
        self.check_error(InvalidPrice, "b", TWO, COMPARE, VALUES, prices={"c": 1, "b": 0, "a": 1})
        self.check_error(UnknownItem, "aa", TWO, COMPARE, VALUES, prices={"b": 0, "aa": 1})
        self.check_error(UnknownItem, "B", TWO, COMPARE, VALUES, prices={"b": 0, "a": 0, "B": 0})
        self.check_error(InvalidPrice, "a", TWO, COMPARE, VALUES, prices={"z": 0, "c": 0, "a": 1001})

    def test_error_codes(self):
        for prices, code in [({"a": 0}, "price"), ({"z": 1}, "item")]:
            with self.assertRaises((QueryError, NotFound)) as caught:
                resolve(TWO, COMPARE, VALUES, prices=prices)
            self.assertEqual(caught.exception.code, code)


class Order(ResolveCase):
    """Point 2: interval lists, queries, prices, all others."""

    def test_interval_errors_come_first(self):
        for intervals, kind in [(rows(a=(1, 0), b=(5, 15)), InvalidIntervals), (TWO[::-1], InvalidIntervals)]:
            for queries in (COMPARE, [("sort", ())], COMPARE * 9, [("above", ("a",), (2, 4))]):
                self.check_error(kind, None, intervals, queries, {}, prices={"z": 0})
        broken = [("a", (0, 1), (2, 4))]
        self.check_error(InvalidFraction, None, broken, [("sort", ())], {}, prices={"z": 0})

    def test_query_errors_come_before_prices(self):
        for queries, kind in [
            ([("sort", ())], InvalidQuery),
            (COMPARE * 9, InvalidQuery),
            ([("above", ("a",), (2, 4))], InvalidFraction),
        ]:
            for prices in ({"a": 0}, {"z": 1}):
                self.check_error(kind, None, TWO, queries, {}, prices=prices)

    def test_price_errors_come_before_values(self):
        for values in ({}, {"a": (2, 4)}, {"a": (99, 1)}):
            self.check_error(InvalidPrice, "b", TWO, COMPARE, values, prices={"b": 0})
            self.check_error(UnknownItem, "z", TWO, COMPARE, values, prices={"z": 1})


class Unchanged(ResolveCase):
    def check_unchanged(self, intervals, queries, values, prices):
        before = copy.deepcopy((intervals, queries, values, prices))
        try:
            resolve(intervals, queries, values, prices=prices)
        except (QueryError, NotFound):
            pass
        self.assertEqual((intervals, queries, values, prices), before)
        self.assertEqual(list(values), list(before[2]))
        self.assertEqual(list(prices or {}), list(before[3] or {}))

    def test_arguments_stay_the_same(self):
        source = random.Random(71)
        for _ in range(300):
            self.check_unchanged(*some_case(source))

    def test_arguments_stay_the_same_after_an_error(self):
        source = random.Random(72)
        for _ in range(300):
            intervals, queries, values, prices = some_case(source)
            lost = source.choice(list(values))
            self.check_unchanged(intervals, queries, {x: values[x] for x in values if x != lost}, prices)
        self.check_unchanged(list(TWO), list(COMPARE), dict(VALUES), {"b": 5, "a": 0})
        self.check_unchanged(list(TWO), [("sort", ("b", "a")), ("sort", ())], dict(VALUES), {"b": 5})

    def test_results_are_new_lists(self):
        given = list(TWO)
        for queries in (COMPARE, []):
            final, log = resolve(given, queries, VALUES)
            self.assertIsNot(final, given)
            expected = (list(final), list(log))
            final.clear()
            log.append("z")
            self.assertEqual(given, TWO)
            self.assertEqual(resolve(given, queries, VALUES), expected)
        empty = []
        self.assertIsNot(resolve(empty, [], {})[0], empty)

    def test_later_changes_do_not_reach_the_result(self):
        intervals, queries, values, prices = list(TWO), list(COMPARE), dict(VALUES), {"a": 3}
        result = resolve(intervals, queries, values, prices=prices)
        expected = copy.deepcopy(result)
        for given in (intervals, queries, values, prices):
            given.clear()
        self.assertEqual(result, expected)

    def test_prices_are_not_spent_between_calls(self):
        prices = {"a": 3, "b": 5}
        first = resolve(TWO, COMPARE, VALUES, prices=prices)
        self.assertEqual(resolve(TWO, COMPARE, VALUES, prices=prices), first)


if __name__ == "__main__":
    unittest.main()
