"""Fractions as reduced tuples (numerator, denominator) of integers."""

from doubtwell.errors import InvalidFraction


def greatest_divisor(first, second):
    """Return the greatest common divisor, which is 0 only for two zeros."""
    first, second = abs(first), abs(second)
    while second:
        first, second = second, first % second
    return first


def rational(numerator, denominator=1):
    """Return the reduced fraction of two integers."""
    if denominator == 0:
        raise InvalidFraction("the denominator is 0")
    divisor = greatest_divisor(numerator, denominator)
    # A negative divisor moves the sign from the denominator to the numerator.
    if denominator < 0:
        divisor = -divisor
    return (numerator // divisor, denominator // divisor)


def less(first, second):
    """Tell whether the first fraction is smaller than the second."""
    return first[0] * second[1] < second[0] * first[1]


def at_most(first, second):
    """Tell whether the first fraction is not greater than the second."""
    return not less(second, first)


def smaller(first, second):
    """Return the smaller one of two fractions."""
    return first if less(first, second) else second


def greater(first, second):
    """Return the greater one of two fractions."""
    return second if less(first, second) else first


def negated(value):
    """Return the fraction with the other sign."""
    return (-value[0], value[1])


def point_between(low, high, step, steps):
    """Return the point that is reached from one fraction after some of the equal steps to another one."""
    start = low[0] * high[1] * (steps - step)
    return rational(start + high[0] * low[1] * step, low[1] * high[1] * steps)


def midpoint(low, high):
    """Return half of the sum of two fractions."""
    return point_between(low, high, 1, 2)


def ascending(fractions):
    """Return the distinct ones of these fractions in ascending order."""
    distinct = sorted(set(fractions))
    ranked = [(len([other for other in distinct if less(other, value)]), value) for value in distinct]
    return [value for rank, value in sorted(ranked)]


def is_fraction(value):
    """Tell whether a value is a reduced fraction."""
    if not isinstance(value, tuple) or len(value) != 2:
        return False
    numerator, denominator = value
    if not isinstance(numerator, int) or not isinstance(denominator, int):
        return False
    return denominator >= 1 and greatest_divisor(numerator, denominator) == 1


def check_fraction(value):
    """Raise InvalidFraction unless the value is a reduced fraction."""
    if not is_fraction(value):
        raise InvalidFraction(f"{value!r} is not a reduced fraction")
