"""Point 3 and the interface of doubtwell/rationals.py."""

import inspect
import math
import random
import unittest
from fractions import Fraction

from doubtwell import rationals
from doubtwell.errors import InvalidFraction, QueryError
from doubtwell.rationals import less, midpoint, rational

DIGITS = [1, 2, 3, 6, 12, 20, 39, 40]


def as_pair(exact):
    return (exact.numerator, exact.denominator)


def some_integer(source):
    return source.choice([-1, 1]) * source.randrange(10 ** source.choice(DIGITS))


def some_fraction(source, digits):
    top = source.randrange(-10 ** digits + 1, 10 ** digits)
    return as_pair(Fraction(top, source.randrange(1, 10 ** digits)))


class Rational(unittest.TestCase):
    def test_examples(self):
        self.assertEqual(rational(6, -4), (-3, 2))
        with self.assertRaises(InvalidFraction):
            rational(1, 0)

    def test_random_integers(self):
        source = random.Random(3)
        for _ in range(3000):
            top, bottom = some_integer(source), some_integer(source) or 1
            with self.subTest(top=top, bottom=bottom):
                self.assertEqual(rational(top, bottom), as_pair(Fraction(top, bottom)))

    def test_common_divisors_are_removed(self):
        source = random.Random(4)
        for _ in range(1000):
            shared = source.randrange(2, 10 ** 12)
            top, bottom = some_integer(source) * shared, source.choice([-1, 1]) * source.randrange(1, 999) * shared
            result = rational(top, bottom)
            self.assertEqual(result, as_pair(Fraction(top, bottom)))
            self.assertEqual(math.gcd(*result), 1)
            self.assertGreaterEqual(result[1], 1)

    def test_small_integers_of_both_signs(self):
        for top in range(-30, 31):
            for bottom in range(-30, 31):
                if bottom != 0:
                    self.assertEqual(rational(top, bottom), as_pair(Fraction(top, bottom)))

    def test_zero(self):
        for bottom in (1, -1, 7, -7, 10 ** 39, -(10 ** 39)):
            self.assertEqual(rational(0, bottom), (0, 1))

    def test_zero_denominator(self):
        for top in (0, 1, -1, 10 ** 39, -(10 ** 39)):
            with self.subTest(top=top):
                with self.assertRaises(InvalidFraction) as caught:
                    rational(top, 0)
                self.assertIs(type(caught.exception), InvalidFraction)
                self.assertIsInstance(caught.exception, QueryError)
                self.assertEqual(caught.exception.code, "fraction")

    def test_default_denominator(self):
        for top in (0, 1, -1, 12, -(10 ** 39)):
            self.assertEqual(rational(top), (top, 1))

    def test_keywords(self):
        self.assertEqual(rational(denominator=-4, numerator=6), (-3, 2))
        self.assertEqual(rational(numerator=6), (6, 1))

    def test_kinds_of_the_result(self):
        result = rational(6, -4)
        self.assertIs(type(result), tuple)
        self.assertEqual([type(part) for part in result], [int, int])


class Less(unittest.TestCase):
    def test_example(self):
        self.assertIs(less((1, 3), (1, 2)), True)

    def test_equal_fractions(self):
        source = random.Random(5)
        for digits in DIGITS:
            pair = some_fraction(source, digits)
            self.assertIs(less(pair, pair), False)
        self.assertIs(less((0, 1), (0, 1)), False)

    def test_negative_fractions(self):
        self.assertIs(less((-1, 2), (-1, 3)), True)
        self.assertIs(less((-1, 3), (-1, 2)), False)
        self.assertIs(less((-1, 2), (0, 1)), True)
        self.assertIs(less((0, 1), (-1, 2)), False)
        self.assertIs(less((-5, 1), (1, 9)), True)

    def test_random_fractions(self):
        source = random.Random(6)
        for _ in range(3000):
            first = some_fraction(source, source.choice(DIGITS))
            second = some_fraction(source, source.choice(DIGITS))
            self.assertIs(less(first, second), Fraction(*first) < Fraction(*second))

    def test_close_fractions(self):
        for first, second in close_pairs():
            self.assertIs(less(first, second), True)
            self.assertIs(less(second, first), False)

    def test_keywords(self):
        self.assertIs(less(second=(1, 2), first=(1, 3)), True)


class Midpoint(unittest.TestCase):
    def test_example(self):
        self.assertEqual(midpoint((0, 1), (1, 1)), (1, 2))

    def test_equal_fractions(self):
        for pair in [(0, 1), (7, 3), (-7, 3), (10 ** 39 - 1, 10 ** 38 + 1)]:
            self.assertEqual(midpoint(pair, pair), as_pair(Fraction(*pair)))

    def test_negative_fractions(self):
        self.assertEqual(midpoint((-1, 2), (1, 2)), (0, 1))
        self.assertEqual(midpoint((-1, 2), (-1, 3)), (-5, 12))
        self.assertEqual(midpoint((-3, 1), (0, 1)), (-3, 2))

    def test_the_result_is_reduced(self):
        self.assertEqual(midpoint((1, 6), (1, 2)), (1, 3))
        self.assertEqual(midpoint((1, 1), (3, 1)), (2, 1))

    def test_either_order(self):
        self.assertEqual(midpoint((5, 1), (1, 2)), midpoint((1, 2), (5, 1)))

    def test_random_fractions(self):
        source = random.Random(7)
        for _ in range(3000):
            low = some_fraction(source, source.choice(DIGITS))
            high = some_fraction(source, source.choice(DIGITS))
            self.assertEqual(midpoint(low, high), as_pair((Fraction(*low) + Fraction(*high)) / 2))

    def test_close_fractions(self):
        for low, high in close_pairs():
            middle = midpoint(low, high)
            self.assertEqual(middle, as_pair((Fraction(*low) + Fraction(*high)) / 2))
            self.assertIs(less(low, middle), True)
            self.assertIs(less(middle, high), True)

    def test_keywords(self):
        self.assertEqual(midpoint(high=(1, 1), low=(0, 1)), (1, 2))


class Conventions(unittest.TestCase):
    def test_parameters(self):
        self.assertEqual(str(inspect.signature(rational)), "(numerator, denominator=1)")
        self.assertEqual(str(inspect.signature(less)), "(first, second)")
        self.assertEqual(str(inspect.signature(midpoint)), "(low, high)")

    def test_defined_here(self):
        for function in (rational, less, midpoint):
            self.assertEqual(function.__module__, rationals.__name__)


def close_pairs():
    """Fractions with up to 39 digits whose difference has the smallest numerator, the smaller one first."""
    pairs = []
    for digits in (5, 16, 17, 18, 38, 39):
        most = 10 ** digits - 1
        pairs.append(((most - 2, most - 1), (most - 1, most)))
        pairs.append(((1, most), (1, most - 1)))
        pairs.append(((1 - most, most), (2 - most, most - 1)))
        pairs.append(((most - 1, 1), (most, 1)))
        pairs.append(((-most, 1), (1 - most, 1)))
    return pairs


if __name__ == "__main__":
    unittest.main()
