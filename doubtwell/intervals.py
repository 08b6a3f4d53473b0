"""Interval lists, possible values of their items, and probes."""

from doubtwell.errors import InvalidIntervals, InvalidValue, MissingValue, UnknownItem
from doubtwell.rationals import check_fraction, less

CAPACITY = 24
MAX_PRICE = 1000
MAX_LETTERS = 6


def is_name(name):
    """Tell whether a value is an item name."""
    if not isinstance(name, str) or not 1 <= len(name) <= MAX_LETTERS:
        return False
    return all(["a" <= letter <= "z" for letter in name])


def check_intervals(intervals):
    """Raise the first error of an interval list, if it has one."""
    if len(intervals) > CAPACITY:
        raise InvalidIntervals(f"there are more than {CAPACITY} items")
    previous = ""
    for name, low, high in intervals:
        check_fraction(low)
        check_fraction(high)
        if not is_name(name):
            raise InvalidIntervals(f"{name!r} is not an item name")
        if name <= previous:
            raise InvalidIntervals(f"the name {name!r} is not greater than the previous one")
        if less(high, low):
            raise InvalidIntervals(f"the bounds of item {name!r} are swapped")
        previous = name


def is_possible(value, low, high):
    """Tell whether an item with these bounds can have this value."""
    if low == high:
        return value == low
    return less(low, value) and less(value, high)


def read_value(values, name, low, high):
    """Return the checked value of an item with these bounds."""
    if name not in values:
        raise MissingValue(name)
    value = values[name]
    check_fraction(value)
    if not is_possible(value, low, high):
        raise InvalidValue(name)
    return value


def reveal(intervals, values, names):
    """Return the interval list after probing the named items."""
    check_intervals(intervals)
    bounds = {name: (low, high) for name, low, high in intervals}
    for name in sorted(set(names)):
        if name not in bounds:
            raise UnknownItem(name)
        low, high = bounds[name]
        value = read_value(values, name, low, high)
        bounds[name] = (value, value)
    return [(name, low, high) for name, (low, high) in bounds.items()]
