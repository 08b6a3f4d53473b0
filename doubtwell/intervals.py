"""Interval lists, possible values of their items, and probes."""

from doubtwell.errors import InvalidIntervals, InvalidValue, MissingValue, UnknownItem
from doubtwell.rationals import at_most, check_fraction, less, negated

CAPACITY = 24
MAX_PRICE = 1000
MAX_LETTERS = 6


def is_name(name):
    """Tell whether a value is an item name."""
    if not isinstance(name, str) or not 1 <= len(name) <= MAX_LETTERS:
        return False
    return all(["a" <= letter <= "z" for letter in name])


def check_intervals(intervals):
    """Raise the first error of an interval list, if it has one."""
    if len(intervals) > CAPACITY:
        raise InvalidIntervals(f"there are more than {CAPACITY} items")
    previous = ""
    for name, low, high in intervals:
        check_fraction(low)
        check_fraction(high)
        if not is_name(name):
            raise InvalidIntervals(f"{name!r} is not an item name")
        if name <= previous:
            raise InvalidIntervals(f"the name {name!r} is not greater than the previous one")
        if less(high, low):
            raise InvalidIntervals(f"the bounds of item {name!r} are swapped")
        previous = name


def is_possible(value, low, high):
    """Tell whether an item with these bounds can have this value."""
    if low == high:
        return value == low
    return less(low, value) and less(value, high)


def read_value(values, row):
    """Return the checked value of the item of a row (name, low, high)."""
    name, low, high = row
    if name not in values:
        raise MissingValue(name)
    value = values[name]
    check_fraction(value)
    if not is_possible(value, low, high):
        raise InvalidValue(name)
    return value


def read_values(values, rows):
    """Return a dict with the checked value of the item of each row, read in the order of the rows."""
    found = {}
    for row in rows:
        found[row[0]] = read_value(values, row)
    return found


def is_known(row):
    """Tell whether the item of a row (name, low, high) is known."""
    return row[1] == row[2]


def lies_inside(value, row):
    """Tell whether a value lies strictly between the bounds of a row."""
    return less(row[1], value) and less(value, row[2])


def are_separated(first, second):
    """Tell whether the upper bound of one row is at most the lower bound of the other."""
    return at_most(first[2], second[1]) or at_most(second[2], first[1])


def mirrored(row):
    """Return the row of the same item with all values negated."""
    name, low, high = row
    return (name, negated(high), negated(low))


def negated_values(found):
    """Return the dict with each value negated, as `mirrored` does with rows."""
    return {name: negated(found[name]) for name in found}


def item_names(intervals):
    """Return the list of the names of an interval list."""
    return [name for name, low, high in intervals]


def row_of(intervals, name):
    """Return the row of an item that exists."""
    return [row for row in intervals if row[0] == name][0]


def with_value(intervals, name, value):
    """Return the interval list with a known value for one of its items."""
    return [(name, value, value) if row[0] == name else row for row in intervals]


def probe(intervals, values, name):
    """Return the interval list after probing one of its items."""
    return with_value(intervals, name, read_value(values, row_of(intervals, name)))


def probe_each(intervals, values, names):
    """Return the list after probing the named items in ascending order, for a valid interval list."""
    existing = item_names(intervals)
    rows = list(intervals)
    for name in sorted(set(names)):
        if name not in existing:
            raise UnknownItem(name)
        rows = probe(rows, values, name)
    return rows


def reveal(intervals, values, names):
    """Return the interval list after probing the named items."""
    check_intervals(intervals)
    return probe_each(intervals, values, names)
