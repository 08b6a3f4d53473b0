"""Points 2, 4 and 5, and `reveal` in the interface of doubtwell/intervals.py."""

import copy
import inspect
import random
import unittest
from fractions import Fraction

from doubtwell import intervals as module
from doubtwell.errors import (
    InvalidFraction,
    InvalidValue,
    MissingValue,
    NotFound,
    QueryError,
    UnknownItem,
)
from doubtwell.intervals import reveal

TWO = [("a", (0, 1), (10, 1)), ("b", (5, 1), (15, 1))]
FOUR = [("a", (0, 1), (10, 1)), ("b", (3, 2), (3, 2)), ("c", (-1, 1), (0, 1)), ("d", (5, 1), (15, 1))]
VALUES = {"a": (7, 1), "b": (3, 2), "c": (-1, 2), "d": (12, 1)}


def known(name, value):
    return (name, value, value)


class RevealCase(unittest.TestCase):
    def check_error(self, kind, name, intervals, values, names):
        with self.assertRaises((QueryError, NotFound)) as caught:
            reveal(intervals, values, names)
        self.assertIs(type(caught.exception), kind)
        self.assertEqual(getattr(caught.exception, "name", None), name)


class Examples(RevealCase):
    def test_examples(self):
        self.assertEqual(reveal(TWO, {"a": (7, 1)}, ["a"]), [known("a", (7, 1)), ("b", (5, 1), (15, 1))])
        self.check_error(InvalidValue, "a", TWO, {"a": (10, 1)}, ["a"])
        self.check_error(MissingValue, "b", TWO, {}, ["b"])

    def test_parameters(self):
        self.assertEqual(str(inspect.signature(reveal)), "(intervals, values, names)")
        self.assertEqual(reveal.__module__, module.__name__)
        self.assertEqual(reveal(names=["a"], values={"a": (7, 1)}, intervals=TWO)[0], known("a", (7, 1)))


class Probes(RevealCase):
    def test_no_probe(self):
        self.assertEqual(reveal(FOUR, VALUES, []), FOUR)
        self.assertEqual(reveal([], {}, []), [])

    def test_all_probes(self):
        expected = [known(name, VALUES[name]) for name in "abcd"]
        self.assertEqual(reveal(FOUR, VALUES, ["a", "b", "c", "d"]), expected)

    def test_names_in_any_order(self):
        expected = reveal(FOUR, VALUES, ["a", "c", "d"])
        self.assertEqual(expected, [known("a", (7, 1)), FOUR[1], known("c", (-1, 2)), known("d", (12, 1))])
        for names in (["d", "c", "a"], ["c", "a", "d"], ["a", "d", "c"]):
            self.assertEqual(reveal(FOUR, VALUES, names), expected)

    def test_duplicate_names(self):
        once = reveal(FOUR, VALUES, ["a", "d"])
        self.assertEqual(reveal(FOUR, VALUES, ["d", "a", "d", "a", "a"]), once)

    def test_duplicate_of_a_missing_value(self):
        self.check_error(MissingValue, "c", FOUR, {}, ["c", "c"])

    def test_a_known_item_stays(self):
        self.assertEqual(reveal(FOUR, VALUES, ["b"]), FOUR)

    def test_values_that_are_not_read_are_not_checked(self):
        values = {"a": (7, 1), "b": (99, 1), "c": (2, 4), "zz": (1, 0), "A": (1, 1)}
        self.assertEqual(reveal(FOUR, values, ["a"])[0], known("a", (7, 1)))

    def test_values_close_to_the_bounds(self):
        most = 10 ** 39 - 1
        narrow = [("a", (0, 1), (1, 1))]
        for value in [(1, most), (most - 1, most)]:
            self.assertEqual(reveal(narrow, {"a": value}, ["a"]), [known("a", value)])

    def test_random_probes(self):
        source = random.Random(11)
        for _ in range(300):
            intervals, values = some_instance(source)
            names = [name for name, _, _ in intervals if source.random() < 0.5]
            expected = [known(row[0], values[row[0]]) if row[0] in names else row for row in intervals]
            source.shuffle(names)
            self.assertEqual(reveal(intervals, values, names), expected)


class OneError(RevealCase):
    def test_unknown_items(self):
        for name in ("z", "aa", "", "A", "abcdefgh"):
            with self.subTest(name=name):
                self.check_error(UnknownItem, name, FOUR, VALUES, [name])
        self.check_error(UnknownItem, "a", [], {"a": (1, 1)}, ["a"])

    def test_an_unknown_item_with_a_value(self):
        self.check_error(UnknownItem, "z", FOUR, {"z": (1, 1)}, ["z"])
        self.check_error(UnknownItem, "z", FOUR, {"z": (2, 4)}, ["z"])

    def test_missing_values(self):
        for name in ("a", "b", "c", "d"):
            values = {other: VALUES[other] for other in VALUES if other != name}
            with self.subTest(name=name):
                self.check_error(MissingValue, name, FOUR, values, ["a", "b", "c", "d"])

    def test_impossible_values(self):
        for value in [(0, 1), (10, 1), (-1, 1), (11, 1), (-1, 10 ** 39), (10 ** 39, 1)]:
            with self.subTest(value=value):
                self.check_error(InvalidValue, "a", FOUR, {"a": value}, ["a"])

    def test_impossible_values_of_a_known_item(self):
        for value in [(1, 1), (2, 1), (-3, 2), (15 * 10 ** 37 + 1, 10 ** 38)]:
            with self.subTest(value=value):
                self.check_error(InvalidValue, "b", FOUR, {"b": value}, ["b"])

    def test_malformed_values(self):
        for value in [(14, 2), (7, 0), (-7, -1), (0, 2), (0, 0), (3, -2), (6, 4), (7,), (7, 1, 1)]:
            for name in ("a", "b"):
                with self.subTest(value=value, name=name):
                    self.check_error(InvalidFraction, None, FOUR, {name: value}, [name])

    def test_codes(self):
        for values, name, code in [
            ({}, "z", "item"),
            ({}, "a", "missing"),
            ({"a": (2, 4)}, "a", "fraction"),
            ({"a": (10, 1)}, "a", "value"),
        ]:
            with self.assertRaises((QueryError, NotFound)) as caught:
                reveal(FOUR, values, [name])
            self.assertEqual(caught.exception.code, code)


class SeveralErrors(RevealCase):
    def test_malformed_comes_before_impossible(self):
        self.check_error(InvalidFraction, None, FOUR, {"a": (40, 2)}, ["a"])
        self.check_error(InvalidFraction, None, FOUR, {"b": (40, 2)}, ["b"])

    def test_the_smallest_name_comes_first(self):
        self.check_error(MissingValue, "a", FOUR, {"d": (99, 1)}, ["d", "a"])
        self.check_error(InvalidValue, "a", FOUR, {"a": (99, 1)}, ["d", "a"])
        self.check_error(InvalidFraction, None, FOUR, {"a": (2, 4)}, ["d", "a"])
        self.check_error(InvalidValue, "a", FOUR, {"a": (99, 1), "d": (2, 4)}, ["d", "a"])
        self.check_error(InvalidValue, "b", FOUR, {"b": (1, 1), "c": (9, 1)}, ["c", "b"])

    def test_unknown_names_take_their_turn(self):
        self.check_error(UnknownItem, "aa", FOUR, {"a": (7, 1)}, ["d", "aa", "a"])
        self.check_error(MissingValue, "a", FOUR, {}, ["zz", "aa", "a"])
        self.check_error(InvalidValue, "a", FOUR, {"a": (10, 1)}, ["zz", "a"])
        self.check_error(InvalidFraction, None, FOUR, {"a": (2, 4)}, ["zz", "a"])
        self.check_error(UnknownItem, "aa", FOUR, VALUES, ["zz", "aa", "zz"])
        self.check_error(UnknownItem, "B", FOUR, {}, ["a", "B"])


class Unchanged(RevealCase):
    def check_unchanged(self, intervals, values, names):
        before = copy.deepcopy((intervals, values, names))
        rows = list(intervals)
        try:
            reveal(intervals, values, names)
        except (QueryError, NotFound):
            pass
        self.assertEqual((intervals, values, names), before)
        self.assertEqual(list(values), list(before[1]))
        self.assertTrue(all(row is same for row, same in zip(intervals, rows, strict=True)))

    def test_arguments_stay_the_same(self):
        self.check_unchanged(list(FOUR), dict(VALUES), ["d", "a", "d"])
        self.check_unchanged(list(FOUR), dict(VALUES), [])

    def test_arguments_stay_the_same_after_an_error(self):
        self.check_unchanged(list(FOUR), {"d": (12, 1), "a": (7, 1)}, ["d", "c", "a"])
        self.check_unchanged(list(FOUR), {"d": (12, 1), "a": (10, 1)}, ["d", "a"])
        self.check_unchanged(list(FOUR), dict(VALUES), ["zz", "a"])
        self.check_unchanged(list(FOUR[::-1]), dict(VALUES), ["d", "a"])

    def test_the_result_is_a_new_list(self):
        for names in ([], ["b"], ["a"]):
            given = list(FOUR)
            result = reveal(given, VALUES, names)
            self.assertIs(type(result), list)
            self.assertIsNot(result, given)
            result.clear()
            self.assertEqual(given, FOUR)
        given = []
        self.assertIsNot(reveal(given, {}, []), given)

    def test_later_changes_do_not_reach_the_result(self):
        given, values = list(FOUR), dict(VALUES)
        result = reveal(given, values, ["a"])
        expected = list(result)
        given.clear()
        values.clear()
        self.assertEqual(result, expected)

    def test_kinds_of_the_result(self):
        for row in reveal(FOUR, VALUES, ["a"]):
            self.assertEqual([type(part) for part in row], [str, tuple, tuple])
            self.assertIs(type(row), tuple)

    def test_a_repeated_call_returns_an_equal_new_result(self):
        given = list(FOUR)
        first = reveal(given, VALUES, ["a", "c"])
        second = reveal(given, VALUES, ["a", "c"])
        self.assertEqual(first, second)
        self.assertIsNot(first, second)


def some_instance(source):
    intervals, values = [], {}
    for name in sorted(source.sample(["a", "ab", "b", "cab", "d", "zzzzzz"], source.randrange(7))):
        low = Fraction(source.randrange(-50, 50), source.randrange(1, 9))
        width = Fraction(source.randrange(3), source.randrange(1, 9))
        value = low + width * Fraction(source.randrange(1, 9), 9)
        intervals.append((name, as_pair(low), as_pair(low + width)))
        values[name] = as_pair(value)
    return intervals, values


def as_pair(exact):
    return (exact.numerator, exact.denominator)


if __name__ == "__main__":
    unittest.main()
