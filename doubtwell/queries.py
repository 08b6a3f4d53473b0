"""Queries: which ones are valid, which ones are certain, and their certain answers."""

from doubtwell.errors import InvalidQuery, Uncertain
from doubtwell.intervals import are_separated, check_intervals, item_names, lies_inside, mirrored
from doubtwell.rationals import at_most, check_fraction, less

MAX_QUERIES = 8
QUERY_LENGTHS = {"sort": 2, "min": 2, "max": 2, "above": 3, "compare": 3}


def has_query_form(query):
    """Tell whether a value is a tuple with the word and the length of a query."""
    if not isinstance(query, tuple) or len(query) == 0 or not isinstance(query[0], str):
        return False
    return QUERY_LENGTHS.get(query[0]) == len(query)


def names_of(query):
    """Return the names of a query that has the form of one."""
    return query[1:] if query[0] == "compare" else query[1]


def are_query_names(names, existing):
    """Tell whether this is a tuple of distinct existing names, with at least one of them."""
    if not isinstance(names, tuple) or len(names) == 0:
        return False
    if not all([isinstance(name, str) and name in existing for name in names]):
        return False
    return len(set(names)) == len(names)


def check_query(query, index, existing):
    """Raise the first error of the query at this index, if it has one."""
    if not has_query_form(query) or not are_query_names(names_of(query), existing):
        raise InvalidQuery(index)
    if query[0] == "above":
        check_fraction(query[2])


def check_queries(intervals, queries):
    """Raise the first error of a list of queries over a valid interval list, if it has one."""
    if len(queries) > MAX_QUERIES:
        raise InvalidQuery(MAX_QUERIES)
    existing = item_names(intervals)
    for index, query in enumerate(queries):
        check_query(query, index, existing)


def asked_rows(intervals, query):
    """Return the rows of the items of a query in ascending order of names."""
    names = names_of(query)
    return [row for row in intervals if row[0] in names]


def query_rows(intervals, query):
    """Return the rows of the items of a query for the rules of its kind, in ascending order of names.

    The rows of "max" are mirrored, so that the rules of "min" hold for them.
    """
    rows = asked_rows(intervals, query)
    if query[0] == "max":
        return [mirrored(row) for row in rows]
    return rows


def row_pairs(rows):
    """Return every two rows, in the order in which they stand."""
    return [(first, second) for at, first in enumerate(rows) for second in rows[at + 1:]]


def is_least(row, rows):
    """Tell whether an item is a minimum of these items in every scenario."""
    return all([at_most(row[2], other[1]) for other in rows if other[0] != row[0]])


def certain(intervals, query):
    """Tell whether a valid query over a valid interval list is certain."""
    rows = query_rows(intervals, query)
    if query[0] == "above":
        return not any([lies_inside(query[2], row) for row in rows])
    if query[0] in ("min", "max"):
        return any([is_least(row, rows) for row in rows])
    return all([are_separated(first, second) for first, second in row_pairs(rows)])


def count_before(row, rows):
    """Count the other items whose value is at most that of this item in every scenario."""
    return len([other for other in rows if other[0] != row[0] and at_most(other[2], row[1])])


def sorted_names(rows):
    """Return the names of separated items in the order of their values."""
    # Equal known values count each other, so that they have the same rank and are sorted by name.
    ranked = sorted([(count_before(row, rows), row[0]) for row in rows])
    return tuple([name for rank, name in ranked])


def certain_answer(intervals, query):
    """Return the certain answer of a valid query that is certain."""
    rows = query_rows(intervals, query)
    if query[0] == "above":
        return tuple([row[0] for row in rows if less(query[2], row[2])])
    if query[0] == "sort":
        return sorted_names(rows)
    return min([row[0] for row in rows if is_least(row, rows)])


def is_certain(intervals, query):
    """Tell whether some answer of the query is correct in every scenario."""
    check_intervals(intervals)
    check_queries(intervals, [query])
    return certain(intervals, query)


def answer(intervals, query):
    """Return the certain answer of the query."""
    check_intervals(intervals)
    check_queries(intervals, [query])
    if not certain(intervals, query):
        raise Uncertain(0)
    return certain_answer(intervals, query)
