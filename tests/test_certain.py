"""Points 3, 8 and 9, and the interface of doubtwell/queries.py; also `all_certain`."""

import copy
import inspect
import random
import unittest
from itertools import permutations, product

from doubtwell import queries as module
from doubtwell.errors import QueryError, Uncertain
from doubtwell.probing import all_certain
from doubtwell.queries import answer, is_certain

from helpers import (
    NAMES,
    certain_answers,
    every_query,
    every_row,
    exact_bounds,
    great_maps,
    map_intervals,
    map_query,
    names_of,
    row,
    rows,
    rule_certain,
    rule_separated,
    some_instance,
    some_query,
    turned_rows,
)

TWO = rows(a=(0, 10), b=(5, 15))


def sort(*names):
    return ("sort", names)


class CertainCase(unittest.TestCase):
    def check_certain(self, intervals, query, expected):
        self.assertIs(is_certain(intervals, query), True)
        found = answer(intervals, query)
        self.assertEqual(found, expected)
        self.assertIs(type(found), type(expected))

    def check_uncertain(self, intervals, query):
        self.assertIs(is_certain(intervals, query), False)
        with self.assertRaises(QueryError) as caught:
            answer(intervals, query)
        self.assertIs(type(caught.exception), Uncertain)
        self.assertEqual(caught.exception.index, 0)
        self.assertEqual(caught.exception.code, "uncertain")

    def check(self, intervals, query, expected):
        """Without an expected answer the query is not certain."""
        if expected is None:
            self.check_uncertain(intervals, query)
        else:
            self.check_certain(intervals, query, expected)


class Interface(CertainCase):
    def test_examples(self):
        self.check_uncertain(TWO, ("compare", "a", "b"))
        self.check_certain(rows(a=(0, 5), b=(5, 15)), sort("b", "a"), ("a", "b"))
        self.check_uncertain(TWO, ("min", ("a", "b")))
        self.assertIs(all_certain(TWO, [("above", ("a", "b"), (20, 1))]), True)

    def test_parameters(self):
        for function in (is_certain, answer):
            self.assertEqual(str(inspect.signature(function)), "(intervals, query)")
            self.assertEqual(function.__module__, module.__name__)
        self.assertEqual(answer(query=("min", ("a",)), intervals=TWO), "a")
        self.assertIs(is_certain(query=("min", ("a",)), intervals=TWO), True)


class OneItem(CertainCase):
    def test_one_item_is_certain(self):
        for intervals in (rows(a=(0, 10)), rows(a=4), rows(a=(0, 10), b=(2, 3), c=5)):
            self.check_certain(intervals, sort("a"), ("a",))
            self.check_certain(intervals, ("min", ("a",)), "a")
            self.check_certain(intervals, ("max", ("a",)), "a")

    def test_above(self):
        unknown, known = rows(a=(0, 10)), rows(a=4)
        for intervals, threshold, expected in [
            (unknown, (-1, 1), ("a",)),
            (unknown, (0, 1), ("a",)),
            (unknown, (1, 10 ** 39), None),
            (unknown, (5, 1), None),
            (unknown, (10 ** 39 - 1, 10 ** 38), None),
            (unknown, (10, 1), ()),
            (unknown, (11, 1), ()),
            (known, (3, 1), ("a",)),
            (known, (4, 1), ()),
            (known, (5, 1), ()),
        ]:
            with self.subTest(intervals=intervals, threshold=threshold):
                self.check(intervals, ("above", ("a",), threshold), expected)


class Sort(CertainCase):
    def test_touching_bounds(self):
        for order in permutations("abc"):
            self.check_certain(rows(a=(4, 9), b=(-3, 1), c=(1, 4)), ("sort", order), ("b", "c", "a"))

    def test_overlapping_bounds(self):
        self.check_uncertain(TWO, sort("a", "b"))
        self.check_uncertain(rows(a=(0, 10), b=(9, 15)), sort("b", "a"))
        self.check_uncertain(rows(a=(0, 10), b=(0, 10)), sort("a", "b"))
        self.check_uncertain(rows(a=(0, 10), b=(2, 3)), sort("a", "b"))
        self.check_uncertain(rows(a=(0, 1), b=(1, 2), c=(1, 3)), sort("a", "b", "c"))

    def test_a_known_item_at_and_inside_bounds(self):
        self.check_certain(rows(a=(0, 10), b=0), sort("a", "b"), ("b", "a"))
        self.check_certain(rows(a=(0, 10), b=10), sort("a", "b"), ("a", "b"))
        self.check_certain(rows(a=10, b=(0, 10)), sort("a", "b"), ("b", "a"))
        self.check_uncertain(rows(a=(0, 10), b=9), sort("a", "b"))
        self.check_uncertain(rows(a=(0, 10), b=1), sort("a", "b"))

    def test_equal_known_values_are_sorted_by_name(self):
        for order in permutations("abcd"):
            self.check_certain(rows(a=5, b=5, c=5, d=5), ("sort", order), ("a", "b", "c", "d"))
            self.check_certain(rows(a=5, b=7, c=5, d=-1), ("sort", order), ("d", "a", "c", "b"))

    def test_equal_known_values_between_touching_bounds(self):
        for order in permutations("abcd"):
            self.check_certain(rows(a=(5, 9), b=5, c=5, d=(1, 5)), ("sort", order), ("d", "b", "c", "a"))
            self.check_certain(rows(a=(1, 5), b=5, c=(5, 9), d=5), ("sort", order), ("a", "b", "d", "c"))

    def test_other_items_do_not_matter(self):
        self.check_certain(rows(a=(0, 5), b=(1, 9), c=(5, 9)), sort("c", "a"), ("a", "c"))

    def test_all_items(self):
        intervals = [("a" + letter, (-at, 1), (1 - at, 1)) for at, letter in enumerate("abcdefghijklmnopqrstuvwx")]
        self.check_certain(intervals, ("sort", tuple(names_of(intervals))), tuple(reversed(names_of(intervals))))
        wider = intervals[:-1] + [("ax", (-23, 1), (-43, 2))]
        self.check_uncertain(wider, ("sort", tuple(names_of(wider))))


class MinAndMax(CertainCase):
    def check_both(self, bounds, names, expected):
        """The same with all values negated is a "max" query."""
        self.check(rows(**bounds), ("min", names), expected)
        self.check(turned_rows(**bounds), ("max", names), expected)

    def test_touching_bounds(self):
        self.check_both({"a": (5, 9), "b": (0, 5), "c": (5, 7)}, ("a", "b", "c"), "b")
        self.check_both({"a": (0, 5), "b": 5}, ("b", "a"), "a")
        self.check_both({"a": (5, 9), "b": 5}, ("a", "b"), "b")

    def test_overlapping_bounds(self):
        self.check_both({"a": (0, 10), "b": (5, 15)}, ("a", "b"), None)
        self.check_both({"a": (0, 10), "b": (9, 15)}, ("a", "b"), None)
        self.check_both({"a": (0, 10), "b": (0, 10)}, ("a", "b"), None)
        self.check_both({"a": (0, 10), "b": 9}, ("a", "b"), None)
        self.check_both({"a": (0, 10), "b": 1}, ("a", "b"), None)

    def test_the_others_may_overlap(self):
        self.check_both({"a": (5, 9), "b": (6, 8), "c": (0, 3)}, ("a", "b", "c"), "c")
        self.check_both({"a": (5, 9), "b": (6, 8), "c": 5}, ("a", "b", "c"), "c")

    def test_several_certain_names(self):
        for names in permutations("abc"):
            self.check_both({"a": 9, "b": 4, "c": 4}, names, "b")
            self.check_both({"a": (4, 9), "b": 4, "c": 4}, names, "b")
            self.check_both({"a": 4, "b": 4, "c": 4}, names, "a")

    def test_other_items_do_not_matter(self):
        self.check_both({"a": (0, 5), "b": (5, 9), "c": (-5, 9)}, ("a", "b"), "a")

    def test_min_and_max_differ(self):
        intervals = rows(a=(0, 2), b=(3, 9), c=(4, 8))
        self.check_certain(intervals, ("min", ("a", "b", "c")), "a")
        self.check_uncertain(intervals, ("max", ("a", "b", "c")))
        self.check_certain(intervals, ("max", ("a", "b")), "b")


class Compare(CertainCase):
    def test_either_order_of_the_names(self):
        for first, second in (("a", "b"), ("b", "a")):
            query = ("compare", first, second)
            self.check_certain(rows(a=(0, 5), b=(5, 9)), query, "a")
            self.check_certain(rows(a=(5, 9), b=(0, 5)), query, "b")
            self.check_certain(rows(a=(5, 9), b=5), query, "b")
            self.check_certain(rows(a=5, b=(1, 5)), query, "b")
            self.check_certain(rows(a=3, b=5), query, "a")
            self.check_certain(rows(a=5, b=3), query, "b")
            self.check_certain(rows(a=5, b=5), query, "a")
            self.check_uncertain(rows(a=(0, 5), b=(4, 9)), query)
            self.check_uncertain(rows(a=(0, 5), b=(0, 5)), query)
            self.check_uncertain(rows(a=(0, 5), b=4), query)


class Above(CertainCase):
    def test_names_in_ascending_order(self):
        intervals = rows(a=(5, 9), b=(0, 5), c=5, d=6, e=(7, 8))
        for names in permutations("abcde"):
            self.check_certain(intervals, ("above", names, (5, 1)), ("a", "d", "e"))

    def test_one_uncertain_item(self):
        intervals = rows(a=(5, 9), b=(0, 5), c=5, d=6, e=(7, 8))
        self.check_uncertain(intervals, ("above", ("a", "b", "c", "d", "e"), (6, 1)))
        self.check_certain(intervals, ("above", ("b", "c", "d", "e"), (6, 1)), ("e",))
        self.check_uncertain(intervals, ("above", ("a", "b", "c", "d", "e"), (15, 2)))

    def test_an_empty_answer(self):
        self.check_certain(TWO, ("above", ("b", "a"), (20, 1)), ())
        self.check_certain(TWO, ("above", ("b", "a"), (15, 1)), ())
        self.check_uncertain(TWO, ("above", ("b", "a"), (14, 1)))


class Rules(CertainCase):
    def test_every_small_instance(self):
        """Certain means: some answer is correct in every scenario (point 8)."""
        for first, second in product(every_row("a", 3), every_row("b", 3)):
            for query in every_query(["a", "b"], 3) + [("sort", ("b", "a")), ("compare", "b", "a")]:
                self.check_by_scenarios([first, second], query)

    def test_three_items(self):
        for triple in product(every_row("a", 2), every_row("b", 2), every_row("c", 2)):
            for query in [("sort", ("c", "a", "b")), ("min", ("a", "c", "b")), ("max", ("b", "c", "a"))]:
                self.check_by_scenarios(list(triple), query)

    def check_by_scenarios(self, intervals, query):
        found = certain_answers(intervals, query)
        self.check(intervals, query, min(found) if found else None)

    def test_pairwise_separation(self):
        source = random.Random(31)
        for _ in range(1500):
            intervals, _ = some_instance(source, source.randint(2, 6))
            names = tuple(source.sample(names_of(intervals), source.randint(2, len(intervals))))
            bounds = exact_bounds(intervals)
            separated = all(
                rule_separated(bounds[one], bounds[two]) for one in names for two in names if one != two
            )
            self.assertIs(is_certain(intervals, ("sort", names)), separated)

    def test_random_queries(self):
        source = random.Random(32)
        for _ in range(3000):
            intervals, _ = some_instance(source, source.randint(1, 6))
            query = some_query(source, names_of(intervals))
            self.assertIs(is_certain(intervals, query), rule_certain(intervals, query))

    def test_answers_of_known_items(self):
        source = random.Random(33)
        for _ in range(500):
            values = {name: source.randrange(4) for name in NAMES[:5]}
            intervals = [row(name, values[name]) for name in values]
            names = tuple(source.sample(list(values), source.randint(1, 5)))
            self.assertEqual(answer(intervals, ("sort", names)), tuple(sorted(names, key=lambda x: (values[x], x))))
            self.assertEqual(answer(intervals, ("min", names)), min(names, key=lambda x: (values[x], x)))
            self.assertEqual(answer(intervals, ("max", names)), min(names, key=lambda x: (-values[x], x)))
            above = tuple(sorted(name for name in names if values[name] > 2))
            self.assertEqual(answer(intervals, ("above", names, (2, 1))), above)

    def test_great_fractions(self):
        source = random.Random(34)
        for _ in range(400):
            intervals, _ = some_instance(source, source.randint(1, 6))
            query = some_query(source, names_of(intervals))
            for change in great_maps():
                great, asked = map_intervals(change, intervals), map_query(change, query)
                self.assertIs(is_certain(great, asked), rule_certain(intervals, query))
                if rule_certain(intervals, query):
                    self.assertEqual(answer(great, asked), answer(intervals, query))

    def test_great_fractions_that_nearly_touch(self):
        most = 10 ** 39 - 1
        smaller, greater = (most - 2, most - 1), (most - 1, most)
        self.check_certain([("a", (0, 1), smaller), ("b", greater, (2, 1))], sort("b", "a"), ("a", "b"))
        self.check_uncertain([("a", (0, 1), greater), ("b", smaller, (2, 1))], sort("b", "a"))
        self.check_certain([("a", (0, 1), greater), ("b", greater, (2, 1))], ("min", ("b", "a")), "a")
        self.check_uncertain([("a", (0, 1), greater)], ("above", ("a",), smaller))
        self.check_certain([("a", (0, 1), smaller)], ("above", ("a",), greater), ())
        self.check_certain([("a", greater, greater)], ("above", ("a",), smaller), ("a",))


class AllCertain(unittest.TestCase):
    def test_parameters(self):
        self.assertEqual(str(inspect.signature(all_certain)), "(intervals, queries)")
        self.assertEqual(all_certain.__module__, "doubtwell.probing")
        self.assertIs(all_certain(queries=[], intervals=TWO), True)

    def test_lists(self):
        certain, uncertain = ("above", ("a", "b"), (20, 1)), ("compare", "a", "b")
        self.assertIs(all_certain(TWO, []), True)
        for count in range(1, 9):
            self.assertIs(all_certain(TWO, [certain] * count), True)
            for at in range(count):
                queries = [certain] * count
                queries[at] = uncertain
                self.assertIs(all_certain(TWO, queries), False)

    def test_random_lists(self):
        source = random.Random(35)
        for _ in range(800):
            intervals, _ = some_instance(source, source.randint(1, 6))
            queries = [some_query(source, names_of(intervals)) for _ in range(source.randint(0, 3))]
            expected = all(rule_certain(intervals, query) for query in queries)
            self.assertIs(all_certain(intervals, queries), expected)


class Unchanged(unittest.TestCase):
    def test_arguments_stay_the_same(self):
        source = random.Random(36)
        for _ in range(200):
            intervals, _ = some_instance(source, source.randint(1, 5))
            queries = [some_query(source, names_of(intervals)) for _ in range(source.randint(1, 4))]
            before = copy.deepcopy((intervals, queries))
            all_certain(intervals, queries)
            for query in queries:
                is_certain(intervals, query)
                try:
                    answer(intervals, query)
                except Uncertain:
                    pass
            self.assertEqual((intervals, queries), before)

    def test_arguments_stay_the_same_after_an_error(self):
        intervals, queries = rows(a=(0, 10), b=(5, 15)), [("min", ("a",)), ("sort", ()), ("above", ("a",), (2, 4))]
        before = copy.deepcopy((intervals, queries))
        with self.assertRaises(QueryError):
            all_certain(intervals, queries)
        self.assertEqual((intervals, queries), before)

    def test_a_repeated_call(self):
        intervals = rows(a=(0, 5), b=(5, 15))
        self.assertEqual(answer(intervals, sort("b", "a")), answer(intervals, sort("b", "a")))


if __name__ == "__main__":
    unittest.main()
