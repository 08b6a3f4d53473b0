"""Point 4: which interval lists are valid, and which error an invalid one raises first."""

import unittest

from doubtwell import intervals as module
from doubtwell.errors import InvalidFraction, InvalidIntervals, QueryError
from doubtwell.intervals import CAPACITY, MAX_PRICE, reveal

ALPHABET = "abcdefghijklmnopqrstuvwxyz"
LOW = (0, 1)
HIGH = (10, 1)
NOT_FRACTIONS = [(2, 4), (0, 2), (0, 0), (1, 0), (0, -1), (1, -2), (-2, -4), (-3, 9), (10 ** 38, 5), (1,), (1, 2, 3)]
NOT_NAMES = ["", "abcdefg", "A", "aB", "a1", "1", "a b", " a", "a_", "a\n", "\u00e4", "\u0131", "z{", "`a"]


def item(name, low=LOW, high=HIGH):
    return (name, low, high)


def many_items(count):
    return [item("a" + letter) for letter in ALPHABET[:count]]


class IntervalCase(unittest.TestCase):
    def check_error(self, kind, intervals, values=None, names=()):
        with self.assertRaises(QueryError) as caught:
            reveal(intervals, values or {}, list(names))
        self.assertIs(type(caught.exception), kind)

    def check_valid(self, intervals):
        given = list(intervals)
        result = reveal(given, {}, [])
        self.assertEqual(result, intervals)
        self.assertIsNot(result, given)
        self.assertIs(type(result), list)


class Constants(unittest.TestCase):
    def test_constants(self):
        self.assertEqual((CAPACITY, MAX_PRICE), (24, 1000))
        self.assertEqual((module.CAPACITY, module.MAX_PRICE), (24, 1000))


class ValidLists(IntervalCase):
    def test_empty_list(self):
        self.check_valid([])

    def test_lists_up_to_the_capacity(self):
        for count in (1, 2, 23, 24):
            with self.subTest(count=count):
                self.check_valid(many_items(count))

    def test_names_of_one_to_six_letters(self):
        for name in ("a", "z", "az", "zzzzzz", "abcdef"):
            with self.subTest(name=name):
                self.check_valid([item(name)])

    def test_names_in_the_order_of_strings(self):
        self.check_valid([item("a"), item("aa"), item("ab"), item("b"), item("ba"), item("zzzzzz")])

    def test_known_items(self):
        self.check_valid([item("a", (3, 2), (3, 2)), item("b", (0, 1), (0, 1)), item("c", (-7, 3), (-7, 3))])

    def test_bounds(self):
        most = 10 ** 39 - 1
        close = item("a", (most - 2, most - 1), (most - 1, most))
        negative = item("b", (-5, 2), (-7, 3))
        self.check_valid([close, negative, item("c", (-1, 1), (0, 1)), item("d", (-most, 1), (most, 1))])


class OneDefect(IntervalCase):
    def test_bad_names(self):
        for name in NOT_NAMES:
            with self.subTest(name=name):
                self.check_error(InvalidIntervals, [item(name)])
                self.check_error(InvalidIntervals, [item("a"), item(name)])

    def test_bad_name_behind_a_smaller_one(self):
        for name in ("abcdefg", "a1", "b2", "bC"):
            with self.subTest(name=name):
                self.check_error(InvalidIntervals, [item("a"), item(name), item("c")])

    def test_duplicates(self):
        self.check_error(InvalidIntervals, [item("a"), item("a")])
        self.check_error(InvalidIntervals, [item("a"), item("b"), item("b")])
        self.check_error(InvalidIntervals, [item("a"), item("a", (1, 1), (1, 1))])

    def test_wrong_order(self):
        self.check_error(InvalidIntervals, [item("b"), item("a")])
        self.check_error(InvalidIntervals, [item("a"), item("c"), item("b")])
        self.check_error(InvalidIntervals, [item("aa"), item("a")])

    def test_swapped_bounds(self):
        most = 10 ** 39 - 1
        for low, high in [
            ((1, 1), (0, 1)),
            ((1, 2), (1, 3)),
            ((-1, 3), (-1, 2)),
            ((0, 1), (-1, most)),
            ((most - 1, most), (most - 2, most - 1)),
        ]:
            with self.subTest(low=low, high=high):
                self.check_error(InvalidIntervals, [item("a", low, high)])
                self.check_error(InvalidIntervals, [item("a"), item("b", low, high)])

    def test_bounds_that_are_not_fractions(self):
        for bound in NOT_FRACTIONS:
            with self.subTest(bound=bound):
                self.check_error(InvalidFraction, [item("a", low=bound)])
                self.check_error(InvalidFraction, [item("a", high=bound)])
                self.check_error(InvalidFraction, [item("a"), item("b", bound, bound)])

    def test_too_many_items(self):
        self.check_error(InvalidIntervals, many_items(25))
        self.check_error(InvalidIntervals, many_items(26))

    def test_codes(self):
        for intervals, code in [([item("A")], "intervals"), ([item("a", low=(2, 4))], "fraction")]:
            with self.assertRaises(QueryError) as caught:
                reveal(intervals, {}, [])
            self.assertEqual(caught.exception.code, code)


class TwoDefects(IntervalCase):
    def test_too_many_items_come_first(self):
        rows = many_items(25)
        rows[0] = item("aa", low=(2, 4))
        self.check_error(InvalidIntervals, rows)

    def test_fractions_come_before_names_in_one_tuple(self):
        self.check_error(InvalidFraction, [item("A", low=(2, 4))])
        self.check_error(InvalidFraction, [item("A", high=(1, 0))])
        self.check_error(InvalidFraction, [item("b"), item("a", high=(2, 4))])
        self.check_error(InvalidFraction, [item("a"), item("a", low=(2, 4))])

    def test_fractions_come_before_swapped_bounds(self):
        self.check_error(InvalidFraction, [item("a", (9, 1), (2, 4))])
        self.check_error(InvalidFraction, [item("a", (18, 2), (1, 2))])

    def test_an_earlier_tuple_comes_first(self):
        broken = item("b", low=(2, 4))
        self.check_error(InvalidIntervals, [item("A"), broken])
        self.check_error(InvalidIntervals, [item("a", HIGH, LOW), broken])
        self.check_error(InvalidIntervals, [item("a"), item("a"), broken])
        self.check_error(InvalidFraction, [item("a", low=(2, 4)), item("B")])
        self.check_error(InvalidFraction, [item("a", low=(2, 4)), item("a")])

    def test_interval_errors_come_before_names_and_values(self):
        self.check_error(InvalidIntervals, [item("b"), item("a")], {}, ["zz"])
        self.check_error(InvalidIntervals, [item("a"), item("b", HIGH, LOW)], {"a": (2, 4)}, ["a"])
        self.check_error(InvalidIntervals, [item("a"), item("b", HIGH, LOW)], {}, ["a"])
        self.check_error(InvalidFraction, [item("a"), item("b", low=(2, 4))], {"a": (99, 1)}, ["a"])


if __name__ == "__main__":
    unittest.main()
