"""Sets of probes for several queries, and scenarios that show that a query is not certain."""

from doubtwell.checks import check_problem
from doubtwell.errors import LimitExceeded
from doubtwell.intervals import are_separated, item_names, lies_inside, negated_values, probe_each, read_values
from doubtwell.prices import total_price
from doubtwell.probing import every_certain
from doubtwell.queries import certain, names_of, query_rows, row_pairs
from doubtwell.rationals import greater, less, midpoint, smaller
from doubtwell.witnesses import frontier, unknown_rows

MAX_SUBSET_ITEMS = 10


def is_sufficient(intervals, queries, values, names):
    """Tell whether all queries are certain after probing the named items."""
    check_problem(intervals, queries)
    return every_certain(probe_each(intervals, values, names), queries)


def asked_unknown_rows(intervals, queries):
    """Return the rows of the unknown items of the queries in ascending order of names."""
    asked = [name for query in queries for name in names_of(query)]
    return [row for row in unknown_rows(intervals) if row[0] in asked]


def all_subsets(names):
    """Return all sets of these names, each as a list in the order of the names."""
    subsets = [[]]
    for name in names:
        subsets = subsets + [chosen + [name] for chosen in subsets]
    return subsets


def with_values(intervals, found, names):
    """Return the interval list with the found values for the named items."""
    return [(row[0], found[row[0]], found[row[0]]) if row[0] in names else row for row in intervals]


def cheapest_subset(intervals, queries, values, *, prices=None):
    """Return the cheapest price of a set that is sufficient for all queries, and the smallest such set."""
    check_problem(intervals, queries, prices)
    rows = asked_unknown_rows(intervals, queries)
    if len(rows) > MAX_SUBSET_ITEMS:
        raise LimitExceeded(len(rows))
    found = read_values(values, rows)
    ordered = sorted([(total_price(prices, names), names) for names in all_subsets(item_names(rows))])
    at = 0
    # The set of all these items is sufficient, so that the search ends.
    while not every_certain(with_values(intervals, found, ordered[at][1]), queries):
        at += 1
    return ordered[at]


def ordered_values(lower, upper):
    """Return possible values of two rows by name, that of the first less than that of the second.

    At least one of the items is unknown, and the lower bound of the first is less than the upper bound of the second.
    """
    above = midpoint(greater(lower[1], upper[1]), upper[2])
    below = midpoint(lower[1], smaller(lower[2], above))
    return {lower[0]: below, upper[0]: above}


def middle_values(rows):
    """Return the scenario in which each value lies halfway between its bounds."""
    return {name: midpoint(low, high) for name, low, high in rows}


def lowest_value(row, others):
    """Return a value of a frontier item that is less than the middle values of all other items."""
    bound = row[2]
    for value in middle_values(others).values():
        bound = smaller(bound, value)
    return midpoint(row[1], bound)


def min_conflict(rows):
    """Return values of some items of a "min" query that is not certain, for each of two scenarios."""
    row = frontier(rows)[0]
    others = [other for other in rows if other[0] != row[0]]
    rivals = [other for other in others if less(other[1], row[2])]
    return ({row[0]: lowest_value(row, others)}, ordered_values(rivals[0], row))


def sort_conflict(rows):
    """Return values of some items of a "sort" or "compare" query that is not certain, for each of two scenarios."""
    pairs = [pair for pair in row_pairs(rows) if not are_separated(pair[0], pair[1])]
    first, second = pairs[0]
    return (ordered_values(first, second), ordered_values(second, first))


def above_conflict(rows, threshold):
    """Return a value of one item of an "above" query that is not certain, for each of two scenarios."""
    name, low, high = [row for row in rows if lies_inside(threshold, row)][0]
    return ({name: midpoint(low, threshold)}, {name: midpoint(threshold, high)})


def conflict(intervals, query):
    """Return values of some items of a query that is not certain, for each of two scenarios.

    With the middle values of all other items, the scenarios have no correct answer in common.
    """
    rows = query_rows(intervals, query)
    if query[0] == "above":
        return above_conflict(rows, query[2])
    if query[0] == "min":
        return min_conflict(rows)
    if query[0] == "max":
        first, second = min_conflict(rows)
        return (negated_values(first), negated_values(second))
    return sort_conflict(rows)


def conflicting_scenarios(intervals, query):
    """Return two scenarios without a common correct answer, or None if the query is certain."""
    check_problem(intervals, [query])
    if certain(intervals, query):
        return None
    first, second = conflict(intervals, query)
    middle = middle_values(intervals)
    return ({**middle, **first}, {**middle, **second})
