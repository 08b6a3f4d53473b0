"""Point 7: which queries are valid, and which error a list of queries raises first; also point 2, the order."""

import random
import unittest
from itertools import product

from doubtwell import queries as module
from doubtwell.errors import InvalidFraction, InvalidIntervals, InvalidQuery, NotFound, QueryError, Uncertain
from doubtwell.probing import all_certain, resolve
from doubtwell.queries import MAX_QUERIES, answer, is_certain
from doubtwell.witnesses import required_items, witness_pairs

from helpers import NOT_FRACTIONS, rows, some_query

INTERVALS = rows(a=(0, 10), b=(5, 15), c=7, dd=(-3, 40))
VALUES = {"a": (7, 1), "b": (12, 1), "c": (7, 1), "dd": (8, 1)}
SINGLE = [is_certain, answer, required_items, witness_pairs]
FINE = [
    ("sort", ("a",)),
    ("sort", ("dd", "a", "c", "b")),
    ("min", ("c",)),
    ("min", ("b", "a")),
    ("max", ("dd",)),
    ("max", ("a", "b", "c", "dd")),
    ("above", ("a",), (1, 2)),
    ("above", ("dd", "b"), (-3, 1)),
    ("above", ("a", "b"), (0, 1)),
    ("compare", "a", "b"),
    ("compare", "dd", "c"),
]
WRONG_WORD = [
    ("sorted", ("a", "b")),
    ("Sort", ("a", "b")),
    ("", ("a", "b")),
    ("sum", ("a",)),
    ("below", ("a",), (1, 1)),
    ("comparer", "a", "b"),
    ("a", "b"),
    (1, ("a",)),
    (None, ("a",)),
    (("sort",), ("a",)),
    (["sort"], ("a",)),
]
WRONG_LENGTH = [
    (),
    ("sort",),
    ("min",),
    ("max",),
    ("above",),
    ("compare",),
    ("sort", ("a",), ("b",)),
    ("sort", "a", "b"),
    ("min", ("a",), (1, 1)),
    ("max", ("a",), (1, 1)),
    ("above", ("a",)),
    ("above", (1, 2)),
    ("above", ("a",), (1, 1), (2, 1)),
    ("compare", "a"),
    ("compare", ("a", "b")),
    ("compare", "a", "b", "c"),
]
NO_NAME = [("sort", ()), ("min", ()), ("max", ()), ("above", (), (1, 1))]
REPEATED_NAME = [
    ("sort", ("a", "a")),
    ("sort", ("a", "b", "a")),
    ("min", ("c", "c")),
    ("max", ("a", "b", "b")),
    ("above", ("a", "a"), (1, 1)),
    ("compare", "a", "a"),
    ("compare", "c", "c"),
]
UNKNOWN_NAME = [
    ("sort", ("z",)),
    ("sort", ("a", "d")),
    ("min", ("a", "A")),
    ("max", ("", "a")),
    ("above", ("a", "ddd"), (1, 1)),
    ("compare", "a", "z"),
    ("compare", "z", "a"),
    ("compare", "a", ""),
    ("min", ("abcdefgh",)),
]
WRONG_NAMES = [
    ("sort", "a"),
    ("sort", ["a", "b"]),
    ("min", "ab"),
    ("max", ("a", 1)),
    ("max", ("a", ["b"])),
    ("above", "a", (1, 1)),
    ("compare", ("a",), "b"),
    ("compare", "a", ("b",)),
    ("min", (("a",), "b")),
    ("min", None),
]
NOT_TUPLES = ["sort a b", ["sort", ("a",)], None, 5, {"sort": ("a",)}]
MALFORMED = WRONG_WORD + WRONG_LENGTH + NO_NAME + REPEATED_NAME + UNKNOWN_NAME + WRONG_NAMES + NOT_TUPLES
BAD_THRESHOLDS = [("above", ("a",), value) for value in NOT_FRACTIONS]
BAD_THRESHOLD = ("above", ("a", "b"), (2, 4))


def run_all_certain(intervals, queries):
    return all_certain(intervals, queries)


def run_resolve(intervals, queries):
    return resolve(intervals, queries, VALUES)


def run_resolve_with_wrong_rest(intervals, queries):
    return resolve(intervals, queries, {}, prices={"a": 0, "z": 1})


LISTS = [run_all_certain, run_resolve, run_resolve_with_wrong_rest]


class QueryCase(unittest.TestCase):
    def check_error(self, kind, index, call, *arguments):
        with self.assertRaises((QueryError, NotFound)) as caught:
            call(*arguments)
        self.assertIs(type(caught.exception), kind)
        self.assertEqual(getattr(caught.exception, "index", None), index)

    def check_list(self, kind, index, queries):
        for call in LISTS:
            self.check_error(kind, index, call, INTERVALS, queries)


class Constants(unittest.TestCase):
    def test_constant(self):
        self.assertEqual(MAX_QUERIES, 8)
        self.assertEqual(module.MAX_QUERIES, 8)


class OneQuery(QueryCase):
    def test_valid_queries(self):
        for query in FINE:
            with self.subTest(query=query):
                for call in (is_certain, required_items, witness_pairs):
                    call(INTERVALS, query)
                try:
                    answer(INTERVALS, query)
                except Uncertain as error:
                    self.assertEqual(error.index, 0)

    def test_malformed_queries(self):
        for query in MALFORMED:
            for call in SINGLE:
                with self.subTest(query=query, call=call.__name__):
                    self.check_error(InvalidQuery, 0, call, INTERVALS, query)

    def test_thresholds_that_are_not_fractions(self):
        for query in BAD_THRESHOLDS:
            for call in SINGLE:
                with self.subTest(query=query, call=call.__name__):
                    self.check_error(InvalidFraction, None, call, INTERVALS, query)

    def test_two_defects_in_one_query(self):
        for names in [(), ("a", "a"), ("z",), ("a", "z"), "a", ["a"]]:
            for value in NOT_FRACTIONS:
                for call in SINGLE:
                    self.check_error(InvalidQuery, 0, call, INTERVALS, ("above", names, value))
        self.check_error(InvalidQuery, 0, is_certain, INTERVALS, ("above", ("a",), (2, 4), (1, 1)))

    def test_no_item_exists(self):
        for query in [("sort", ("a",)), ("compare", "a", "b"), ("above", ("a",), (2, 4))]:
            for call in SINGLE:
                self.check_error(InvalidQuery, 0, call, [], query)

    def test_interval_errors_come_first(self):
        for query in [("sort", ("z",)), BAD_THRESHOLD]:
            for call in SINGLE:
                self.check_error(InvalidIntervals, None, call, rows(a=(1, 0)), query)
                self.check_error(InvalidIntervals, None, call, INTERVALS[::-1], query)
        for call in SINGLE:
            self.check_error(InvalidFraction, None, call, [("a", (0, 1), (2, 4))], ("sort", ("z",)))

    def test_interval_errors_with_a_valid_query(self):
        for call in SINGLE:
            self.check_error(InvalidIntervals, None, call, INTERVALS + [INTERVALS[0]], ("min", ("a",)))
            self.check_error(InvalidFraction, None, call, [("a", (0, 2), (5, 1))], ("min", ("a",)))
            many = [("a" + letter, (0, 1), (1, 1)) for letter in "abcdefghijklmnopqrstuvwxy"]
            self.check_error(InvalidIntervals, None, call, many, ("min", ("aa",)))

    def test_error_code(self):
        with self.assertRaises(InvalidQuery) as caught:
            is_certain(INTERVALS, ("sort", ()))
        self.assertEqual(caught.exception.code, "query")


class ListsOfQueries(QueryCase):
    def test_valid_lists(self):
        source = random.Random(21)
        for count in range(MAX_QUERIES + 1):
            for _ in range(10):
                queries = [source.choice(FINE) for _ in range(count)]
                self.assertIn(all_certain(INTERVALS, queries), (True, False))
                self.assertTrue(all_certain(resolve(INTERVALS, queries, VALUES)[0], queries))

    def test_equal_queries_are_valid(self):
        self.assertIs(all_certain(INTERVALS, [FINE[0]] * 8), True)

    def test_no_query(self):
        self.assertIs(all_certain(INTERVALS, []), True)
        self.assertIs(all_certain([], []), True)

    def test_one_malformed_query_at_any_index(self):
        source = random.Random(22)
        for query in MALFORMED:
            for index in range(MAX_QUERIES):
                queries = [source.choice(FINE) for _ in range(source.randint(index, 7))]
                queries.insert(index, query)
                self.check_list(InvalidQuery, index, queries)

    def test_two_malformed_queries(self):
        source = random.Random(23)
        for first, second in product(range(MAX_QUERIES), repeat=2):
            if first < second:
                queries = [source.choice(FINE) for _ in range(MAX_QUERIES)]
                queries[first], queries[second] = source.choice(MALFORMED), source.choice(MALFORMED)
                self.check_list(InvalidQuery, first, queries)

    def test_bad_thresholds_ahead_and_behind(self):
        source = random.Random(24)
        for threshold, malformed in product(range(MAX_QUERIES), repeat=2):
            if threshold != malformed:
                queries = [source.choice(FINE) for _ in range(MAX_QUERIES)]
                queries[threshold], queries[malformed] = source.choice(BAD_THRESHOLDS), source.choice(MALFORMED)
                if threshold < malformed:
                    self.check_list(InvalidFraction, None, queries)
                else:
                    self.check_list(InvalidQuery, malformed, queries)

    def test_one_bad_threshold_at_any_index(self):
        for query in BAD_THRESHOLDS:
            for index in range(MAX_QUERIES):
                queries = FINE[:index] + [query] + FINE[index:7]
                self.check_list(InvalidFraction, None, queries)

    def test_the_ninth_query(self):
        for count in (9, 10, 20):
            queries = (FINE * 2)[:count]
            self.check_list(InvalidQuery, 8, queries)

    def test_the_ninth_query_comes_before_other_defects(self):
        for query in [("sort", ()), BAD_THRESHOLD, ("sort", ("z",))]:
            for index in (0, 3, 8, 9):
                queries = FINE[:index] + [query] + FINE[:9 - index]
                self.assertGreater(len(queries), MAX_QUERIES)
                self.check_list(InvalidQuery, 8, queries)

    def test_random_lists(self):
        source = random.Random(25)
        names = [name for name, _, _ in INTERVALS]
        for _ in range(300):
            queries = [some_query(source, names) for _ in range(source.randrange(9))]
            final, _ = resolve(INTERVALS, queries, VALUES)
            self.assertIs(all_certain(final, queries), True)

    def test_interval_errors_come_first(self):
        for call in LISTS:
            for queries in ([("sort", ())], [BAD_THRESHOLD], FINE):
                self.check_error(InvalidIntervals, None, call, rows(a=(1, 0)), queries)
            self.check_error(InvalidFraction, None, call, [("a", (0, 1), (2, 4))], [("sort", ())])


if __name__ == "__main__":
    unittest.main()
