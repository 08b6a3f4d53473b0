"""Items that every sufficient set of probes must include, alone or as one of a pair."""

from doubtwell.checks import check_problem
from doubtwell.intervals import are_separated, is_known, lies_inside
from doubtwell.queries import query_rows, row_pairs
from doubtwell.rationals import at_most, less


def unknown_rows(rows):
    """Return the rows of the unknown items."""
    return [row for row in rows if not is_known(row)]


def lies_within(other, row):
    """Tell whether another item is known inside of an unknown one, or unknown with no wider bounds."""
    if is_known(other):
        return lies_inside(other[1], row)
    return at_most(row[1], other[1]) and at_most(other[2], row[2])


def sort_required(rows):
    """Return the required rows of a "sort" or "compare" query."""
    return [
        row
        for row in unknown_rows(rows)
        if any([lies_within(other, row) for other in rows if other[0] != row[0]])
    ]


def sort_pairs(rows):
    """Return the witness pairs of a "sort" or "compare" query."""
    pairs = row_pairs(unknown_rows(rows))
    return [(first[0], second[0]) for first, second in pairs if not are_separated(first, second)]


def keeps_from_frontier(other, row):
    """Tell whether another item of a "min" query keeps an unknown one from its frontier."""
    if is_known(other):
        return at_most(other[1], row[1])
    return less(other[1], row[1])


def frontier(rows):
    """Return the rows of the frontier of a "min" query."""
    return [row for row in unknown_rows(rows) if not any([keeps_from_frontier(other, row) for other in rows])]


def ends_below(other, row):
    """Tell whether another item makes a frontier item required."""
    if is_known(other):
        return less(other[1], row[2])
    return at_most(other[2], row[2])


def min_required(rows):
    """Return the required rows of a "min" query."""
    return [
        row
        for row in frontier(rows)
        if any([ends_below(other, row) for other in rows if other[0] != row[0]])
    ]


def name_pair(first, second):
    """Return the names of two rows, the smaller one first."""
    return (min(first[0], second[0]), max(first[0], second[0]))


def min_pairs(rows):
    """Return the witness pairs of a "min" query."""
    pairs = [
        name_pair(row, other)
        for row in frontier(rows)
        for other in unknown_rows(rows)
        if other[0] != row[0] and less(other[1], row[2])
    ]
    # Two frontier items are found from both sides.
    return sorted(set(pairs))


def required_names(intervals, query):
    """Return the required items of a valid query in ascending order."""
    rows = query_rows(intervals, query)
    if query[0] == "above":
        return [row[0] for row in rows if lies_inside(query[2], row)]
    if query[0] in ("min", "max"):
        return [row[0] for row in min_required(rows)]
    return [row[0] for row in sort_required(rows)]


def pair_names(intervals, query):
    """Return the reported witness pairs of a valid query in ascending order."""
    rows = query_rows(intervals, query)
    if query[0] == "above":
        return []
    if query[0] in ("min", "max"):
        return min_pairs(rows)
    return sort_pairs(rows)


def required_items(intervals, query):
    """Return the list of all required items in ascending order."""
    check_problem(intervals, [query])
    return required_names(intervals, query)


def witness_pairs(intervals, query):
    """Return the list of the reported witness pairs in ascending order."""
    check_problem(intervals, [query])
    return pair_names(intervals, query)
