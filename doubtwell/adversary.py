"""Hard instances, and an adversary against fixed probe orders."""

from doubtwell.checks import check_problem
from doubtwell.errors import InvalidBounds, UnknownItem
from doubtwell.intervals import item_names, probe
from doubtwell.probing import every_certain

LETTERS = "abcdefghijkl"
MAX_PAIRS = 12


def pair_at(index):
    """Return the names of the left and the right item of a pair of the hard instance."""
    return ("l" + LETTERS[index], "r" + LETTERS[index])


def pair_rows(index):
    """Return the rows of the left and the right item of a pair of the hard instance."""
    left, right = pair_at(index)
    start = 10 * index
    return [(left, (start, 1), (start + 4, 1)), (right, (start + 2, 1), (start + 6, 1))]


def hard_instance(*, pairs=3):
    """Return the interval list and the query of the hard instance with this number of pairs."""
    if not 1 <= pairs <= MAX_PAIRS:
        raise InvalidBounds(f"the number of pairs is not from 1 to {MAX_PAIRS}")
    rows = sorted([row for index in range(pairs) for row in pair_rows(index)])
    return (rows, ("sort", tuple(item_names(rows))))


def check_order(order, intervals):
    """Raise UnknownItem for the first name of a probe order that does not exist, if there is one."""
    existing = item_names(intervals)
    for name in order:
        if name not in existing:
            raise UnknownItem(name)


def pair_values(index, order):
    """Return the values of a pair for which probing the first one of its items in the order is not enough."""
    left, right = pair_at(index)
    start = 10 * index
    first = [name for name in order if name in (left, right)][:1]
    if first == [right]:
        return {left: (start + 1, 1), right: (start + 3, 1)}
    return {left: (start + 3, 1), right: (start + 5, 1)}


def adversary_values(order, *, pairs=3):
    """Return a scenario of the hard instance that is the worst one for a probe order."""
    intervals, query = hard_instance(pairs=pairs)
    check_order(order, intervals)
    found = {}
    for index in range(pairs):
        found.update(pair_values(index, order))
    return found


def probe_in_order(intervals, queries, values, order):
    """Return the list of the items that a probe order probes, or None if it leaves a query uncertain."""
    check_problem(intervals, queries)
    check_order(order, intervals)
    rows = list(intervals)
    probed = []
    for name in order:
        if name in probed:
            continue
        if every_certain(rows, queries):
            break
        rows = probe(rows, values, name)
        probed.append(name)
    return probed if every_certain(rows, queries) else None
