"""Points 2, 4, 6 and 7 in every function: interval lists are checked first, then queries, prices, and all others."""

import inspect
import random
import unittest

from doubtwell import adversary, certificates, intervals, optimum, probing, queries, scenarios, subsets, witnesses
from doubtwell.errors import InvalidFraction, InvalidIntervals, InvalidPrice, InvalidQuery, LimitExceeded
from doubtwell.errors import Uncertain, UnknownItem

from helpers import ErrorCase, parts_of, rows, some_case

TWO = rows(a=(0, 10), b=(5, 15))
QUERY = ("compare", "a", "b")
VALUES = {"a": (7, 1), "b": (12, 1)}

# Valid arguments for everything that comes after the interval list, the queries and the prices.
FINE = {
    "values": VALUES,
    "names": ["b"],
    "order": ["b", "a"],
    "log": [("pair", "a", "b", 1, "a", (7, 1)), ("required", "b", 0, (12, 1))],
    "certificate": ("sweep", [("b", "a")], [("a", 1)]),
}
# The same with errors that must not come first.
WRONG = {
    "values": {"a": (2, 4), "b": (99, 1)},
    "names": ["nosuch"],
    "order": ["nosuch"],
    "log": [("required", "a", 1, (2, 4)), ()],
    "certificate": ("nothing",),
}
FUNCTIONS = [
    intervals.reveal,
    queries.is_certain,
    queries.answer,
    witnesses.required_items,
    witnesses.witness_pairs,
    probing.resolve,
    probing.all_certain,
    certificates.check_log,
    optimum.cheapest,
    optimum.proven_bound,
    subsets.is_sufficient,
    subsets.cheapest_subset,
    subsets.conflicting_scenarios,
    scenarios.scenarios,
    scenarios.worst_case,
    adversary.probe_in_order,
]


def taking(name):
    return [function for function in FUNCTIONS if name in inspect.signature(function).parameters]


def arguments_of(function, rest, **more):
    """Keyword arguments for a function: those of `more` that it takes, and the rest."""
    given = {"intervals": TWO, "query": QUERY, "queries": [QUERY], "prices": None, **rest, **more}
    return {name: given[name] for name in inspect.signature(function).parameters}


BROKEN_INTERVALS = [
    (TWO[::-1], InvalidIntervals()),
    (rows(a=(0, 10), b=(15, 5)), InvalidIntervals()),
    ([("a", (0, 1), (2, 4)), TWO[1]], InvalidFraction()),
    ([("A", (0, 1), (2, 1)), TWO[1]], InvalidIntervals()),
    (TWO * 13, InvalidIntervals()),
]
BROKEN_QUERIES = [
    (("sort", ()), InvalidQuery(0)),
    (("compare", "a", "a"), InvalidQuery(0)),
    (("compare", "a", "c"), InvalidQuery(0)),
    (("min", ("a", "b"), (1, 1)), InvalidQuery(0)),
    (("median", ("a", "b")), InvalidQuery(0)),
    (("above", ("a",), (2, 4)), InvalidFraction()),
    (("above", ("c",), (2, 4)), InvalidQuery(0)),
]
BROKEN_PRICES = [
    ({"a": 0}, InvalidPrice("a")),
    ({"b": -1}, InvalidPrice("b")),
    ({"b": 1001}, InvalidPrice("b")),
    ({"c": 5}, UnknownItem("c")),
    ({"c": 0}, UnknownItem("c")),
    ({"c": 1, "b": 0, "a": 1000}, InvalidPrice("b")),
    ({"c": 1, "b": 0, "aa": 1, "a": 1}, UnknownItem("aa")),
    ({"b": 0, "a": 1001, "A": 7}, UnknownItem("A")),
    ({"": 1, "a": 0}, UnknownItem("")),
]


class EveryFunction(ErrorCase):
    def check_all(self, functions, expected, rest, **more):
        for function in functions:
            with self.subTest(function.__name__):
                self.check_error(expected, function, **arguments_of(function, rest, **more))

    def test_valid_arguments(self):
        for function in FUNCTIONS:
            with self.subTest(function.__name__):
                if function == queries.answer:
                    arguments = arguments_of(function, FINE, query=("min", ("a",)))
                else:
                    arguments = arguments_of(function, FINE)
                function(**arguments)
                function(**dict(reversed(list(arguments.items()))))

    def test_interval_lists_come_first(self):
        for broken, expected in BROKEN_INTERVALS:
            for query, _ in [(QUERY, None), *BROKEN_QUERIES]:
                more = {"query": query, "queries": [query] * 9, "prices": {"a": 0, "c": 1}}
                self.check_all(FUNCTIONS, expected, WRONG, intervals=broken, **more)
            self.check_all(FUNCTIONS, expected, FINE, intervals=broken)

    def test_queries_come_before_prices_and_others(self):
        for query, expected in BROKEN_QUERIES:
            self.check_all(taking("query"), expected, WRONG, query=query, prices={"a": 0})
            self.check_all(taking("query"), expected, FINE, query=query, prices={"c": 1})
            self.check_all(taking("queries"), expected, WRONG, queries=[query, QUERY], prices={"a": 0})
            later = InvalidQuery(2) if isinstance(expected, InvalidQuery) else expected
            self.check_all(taking("queries"), later, WRONG, queries=[QUERY, QUERY, query], prices={"a": 0})

    def test_too_many_queries(self):
        more = {"prices": {"a": 0}}
        self.check_all(taking("queries"), InvalidQuery(8), WRONG, queries=[QUERY] * 9, **more)
        self.check_all(taking("queries"), InvalidQuery(8), WRONG, queries=[("sort", ())] * 10, **more)
        self.check_all(taking("queries"), InvalidQuery(7), WRONG, queries=[QUERY] * 7 + [("sort", ())], **more)

    def test_the_first_query_decides(self):
        broken = [("above", ("a",), (2, 4)), ("sort", ())]
        self.check_all(taking("queries"), InvalidFraction(), WRONG, queries=broken)
        self.check_all(taking("queries"), InvalidQuery(0), WRONG, queries=broken[::-1])

    def test_prices_come_before_others(self):
        self.assertEqual(len(taking("prices")), 6)
        for prices, expected in BROKEN_PRICES:
            self.check_all(taking("prices"), expected, WRONG, prices=prices)
            self.check_all(taking("prices"), expected, FINE, prices=prices)

    def test_prices_by_keyword_only(self):
        for function in taking("prices"):
            parameter = inspect.signature(function).parameters["prices"]
            self.assertEqual((parameter.kind, parameter.default), (parameter.KEYWORD_ONLY, None))

    def test_valid_prices(self):
        for function in taking("prices"):
            for prices in ({}, {"a": 1}, {"b": 1000}, {"b": 1, "a": 999}):
                function(**arguments_of(function, FINE, prices=prices))

    def test_arguments_stay_the_same(self):
        source = random.Random(21)
        for _ in range(100):
            some, asked, values, prices = some_case(source, 4, least=1)
            given = {"intervals": some, "queries": asked, "query": asked[0], "values": values, "prices": prices}
            log = probing.resolve(some, asked, values, prices=prices)[1]
            certificate = optimum.cheapest(some, asked[0], values, prices=prices)[2]
            names = [source.choice(some)[0] for _ in range(3)]
            rest = {"log": log, "certificate": certificate, "names": names, "order": names}
            for function in FUNCTIONS:
                arguments = arguments_of(function, rest, **given)
                self.check_unchanged(function, **arguments)

    def test_results_are_new_objects(self):
        source = random.Random(22)
        for _ in range(50):
            some, asked, values, prices = some_case(source, 4, least=1)
            given = {"intervals": some, "queries": asked, "query": asked[0], "values": values, "prices": prices}
            certificate = optimum.cheapest(some, asked[0], values, prices=prices)[2]
            rest = {"log": [], "certificate": certificate, "names": [], "order": []}
            for function in FUNCTIONS:
                arguments = arguments_of(function, rest, **given)
                try:
                    first, second = function(**arguments), function(**arguments)
                except (Uncertain, LimitExceeded):
                    continue
                parts = parts_of(first) + parts_of(second) + parts_of(arguments)
                self.assertEqual(len({id(part) for part in parts}), len(parts), function.__name__)


if __name__ == "__main__":
    unittest.main()
