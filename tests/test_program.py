"""Points 1, 2, 4, 5, 13, 14, 22 and 23 over the whole program."""

import random
import unittest
from fractions import Fraction

from doubtwell.adversary import adversary_values, hard_instance, probe_in_order
from doubtwell.certificates import check_log, log_totals
from doubtwell.errors import InvalidFraction, InvalidQuery, InvalidValue, MissingValue
from doubtwell.intervals import reveal
from doubtwell.optimum import cheapest, proven_bound
from doubtwell.probing import all_certain, resolve
from doubtwell.queries import answer
from doubtwell.query_text import format_queries, parse_queries
from doubtwell.store import Store
from doubtwell.subsets import cheapest_subset, is_sufficient

from helpers import (
    ErrorCase,
    correct_answers,
    exact_bounds,
    names_of,
    row,
    rows,
    some_case,
    whole,
)

ALL = ["a" + letter for letter in "abcdefghijklmnopqrstuvwx"]


def is_correct(query, scenario, found):
    """Whether an answer is correct, also for "sort" queries with many items."""
    if query[0] != "sort":
        return found in correct_answers(query, scenario)
    values = [scenario[name] for name in found]
    return sorted(found) == sorted(query[1]) and values == sorted(values)


class ProgramCase(ErrorCase):
    def check_resolved(self, intervals, queries, values, prices):
        """The log is valid, the answers are correct, and the prices keep to point 14; the totals are returned."""
        final, log = resolve(intervals, queries, values, prices=prices)
        self.assertIs(all_certain(final, queries), True)
        self.assertIsNone(check_log(intervals, queries, log, prices=prices))
        scenario = {name: Fraction(*value) for name, value in values.items()}
        for query in queries:
            self.assertTrue(is_correct(query, scenario, answer(final, query)))
        spent, charge = log_totals(log, prices=prices)
        self.assertLessEqual(charge, spent)
        self.assertLessEqual(spent, 2 * charge)
        return spent, charge

    def check_cheapest(self, intervals, query, values, prices):
        """The cheapest price lies between the total charge and the spent price."""
        spent, charge = self.check_resolved(intervals, [query], values, prices)
        price, names, certificate = cheapest(intervals, query, values, prices=prices)
        self.assertLessEqual(charge, price)
        self.assertLessEqual(price, spent)
        self.assertIs(is_sufficient(intervals, [query], values, names), True)
        self.assertEqual(proven_bound(intervals, query, values, certificate, prices=prices), price)
        self.assertEqual(sum((prices or {}).get(name, 1) for name in names), price)


class HardInstances(ProgramCase):
    def test_nine_to_twelve_pairs(self):
        source = random.Random(1)
        for pairs in (9, 10, 11, 12):
            intervals, query = hard_instance(pairs=pairs)
            for _ in range(6):
                order = source.sample(names_of(intervals), source.randint(0, 2 * pairs))
                values = adversary_values(order, pairs=pairs)
                prices = {name: source.randint(1, 1000) for name in names_of(intervals)}
                for given in (None, prices):
                    self.check_cheapest(intervals, query, values, given)
                self.assertEqual(cheapest(intervals, query, values)[0], pairs)

    def test_the_strategy_against_an_order(self):
        intervals, query = hard_instance(pairs=12)
        values = adversary_values(names_of(intervals), pairs=12)
        self.assertEqual(probe_in_order(intervals, [query], values, names_of(intervals)), names_of(intervals))
        spent, charge = self.check_resolved(intervals, [query], values, None)
        self.assertEqual((spent, charge), (24, 12))

    def test_random_values(self):
        source = random.Random(2)
        for pairs in (9, 10, 11, 12):
            intervals, query = hard_instance(pairs=pairs)
            for _ in range(6):
                bounds = exact_bounds(intervals)
                values = {name: whole(source.randint(int(low) + 1, int(high) - 1)) for name, (low, high) in bounds.items()}
                self.check_cheapest(intervals, query, values, {name: source.randint(1, 9) for name in values})


class ManyItems(ProgramCase):
    def test_queries_over_24_items(self):
        source = random.Random(3)
        for _ in range(40):
            intervals, values = [], {}
            for name in ALL:
                low = source.randrange(60)
                high = low + source.choice([0, 2, 3, 5, 9, 20])
                intervals.append(row(name, low, high))
                values[name] = whole(low if low == high else source.randrange(low + 1, high))
            prices = {name: source.choice([1, 2, 5, 1000]) for name in ALL if source.random() < 0.7}
            asked = tuple(source.sample(ALL, 24))
            queries = [("sort", asked), ("min", asked), ("max", asked), ("above", asked, (30, 1))]
            for query in queries:
                self.check_cheapest(intervals, query, values, prices)
            self.check_resolved(intervals, queries * 2, values, prices)


class FromTextToStore(ProgramCase):
    def test_a_text_of_queries(self):
        store = Store()
        store.add_item("a", (0, 1), (10, 1), price=4)
        store.add_item("b", (5, 1), (15, 1), price=2)
        store.add_item("c", (12, 1), (20, 1))
        queries = parse_queries("sort c b a; above 25/2 a b c; compare b a")
        values = {"a": (3, 1), "b": (14, 1), "c": (25, 2)}
        before = store.intervals()
        self.assertEqual(store.resolve(queries, values), [("a", "c", "b"), ("b",), "a"])
        self.assertIsNone(check_log(before, queries, store.log(), prices=store.prices()))
        self.assertEqual(store.spent(), log_totals(store.log(), prices=store.prices())[0])
        self.assertEqual(store.answers(queries), [("a", "c", "b"), ("b",), "a"])

    def test_random_stores(self):
        source = random.Random(4)
        for _ in range(300):
            intervals, queries, values, prices = some_case(source, 6, 4)
            unknown = [entry for entry in intervals if entry[1] != entry[2]]
            queries = [query for query in queries if set(names_in(query)) <= set(names_of(unknown))]
            store = Store()
            for name, low, high in source.sample(unknown, len(unknown)):
                store.add_item(name, low, high, price=(prices or {}).get(name, 1))
            text = format_queries(queries)
            found = store.resolve(parse_queries(text), values)
            scenario = {name: Fraction(*value) for name, value in values.items()}
            for query, answered in zip(queries, found):
                self.assertTrue(is_correct(query, scenario, answered))
            self.assertIsNone(check_log(unknown, queries, store.log(), prices=store.prices()))
            final, log = resolve(unknown, queries, values, prices=store.prices())
            self.assertEqual((store.intervals(), store.log()), (final, log))
            spent, charge = log_totals(log, prices=store.prices())
            self.assertEqual(store.spent(), spent)
            least = cheapest_subset(unknown, queries, values, prices=store.prices())[0]
            self.assertTrue(charge <= least <= spent <= 2 * charge)
            store.undo()
            self.assertEqual((store.intervals(), store.spent()), (unknown, 0))


def names_in(query):
    return query[1:] if query[0] == "compare" else query[1]


class BadValues(ErrorCase):
    """Points 5 and 23: which of several bad entries decides, in each function that reads values."""

    ITEMS = rows(a=(0, 10), b=(0, 10), c=(0, 10), d=5)
    QUERY = ("sort", ("d", "c", "b", "a"))
    # Each function, and the names in the order in which it reads their values.
    READERS = [
        (lambda values: reveal(BadValues.ITEMS, values, ["d", "c", "a", "b", "a"]), "abcd"),
        (lambda values: resolve(BadValues.ITEMS, [BadValues.QUERY], values), "abc"),
        (lambda values: cheapest(BadValues.ITEMS, BadValues.QUERY, values), "abcd"),
        (lambda values: cheapest(BadValues.ITEMS, ("min", ("d", "b")), values), "bd"),
        (lambda values: proven_bound(BadValues.ITEMS, BadValues.QUERY, values, ("x",)), "abcd"),
        (lambda values: is_sufficient(BadValues.ITEMS, [BadValues.QUERY], values, ["d", "b", "a"]), "abd"),
        (lambda values: cheapest_subset(BadValues.ITEMS, [BadValues.QUERY], values), "abc"),
        (lambda values: probe_in_order(BadValues.ITEMS, [BadValues.QUERY], values, list("cdab")), "cdab"),
        (lambda values: BadValues.store().resolve([("sort", ("c", "b", "a"))], values), "abc"),
        (lambda values: BadValues.store().resolve_all([[("above", ("c",), (5, 1))], [("max", ("b", "a"))]], values), "cab"),
    ]

    @staticmethod
    def store():
        made = Store()
        for name in "cab":
            made.add_item(name, (0, 1), (10, 1))
        return made

    def good_values(self):
        return {"a": (1, 1), "b": (4, 1), "c": (6, 1), "d": (5, 1)}

    def test_the_first_bad_entry(self):
        for read, names in self.READERS:
            for at, first in enumerate(names):
                for second in ["", *names[at + 1:]]:
                    values = self.good_values()
                    if second:
                        values[second] = (3, 6)
                    missing = {name: value for name, value in values.items() if name != first}
                    self.check_error(MissingValue(first), read, missing)
                    self.check_error(InvalidValue(first), read, {**values, first: (10, 1)})
                    self.check_error(InvalidValue(first), read, {**values, first: (-1, 2)})
                    values = self.good_values()
                    if second:
                        values[second] = (99, 1)
                    self.check_error(InvalidFraction(), read, {**values, first: (2, 4)})

    def test_entries_that_are_not_read(self):
        for read, names in self.READERS:
            good = {name: value for name, value in self.good_values().items() if name in names}
            expected = read(good)
            for bad in [(2, 4), (99, 1), (1, 0)]:
                more = {name: bad for name in self.good_values() if name not in names}
                self.assertEqual(read({**good, **more, "x": bad, "": bad, "A": bad}), expected)

    def test_queries_come_before_values(self):
        self.check_error(InvalidQuery(0), self.store().resolve, [("sort", ())], {})


if __name__ == "__main__":
    unittest.main()
