"""The strategy: probes until all queries are certain, with a log of charges."""

from doubtwell.checks import check_problem
from doubtwell.intervals import item_names, probe
from doubtwell.logs import probed_name
from doubtwell.prices import price_of
from doubtwell.queries import certain
from doubtwell.witnesses import pair_names, required_names


def every_certain(intervals, queries):
    """Tell whether all valid queries are certain."""
    return all([certain(intervals, query) for query in queries])


def all_certain(intervals, queries):
    """Tell whether all queries are certain."""
    check_problem(intervals, queries)
    return every_certain(intervals, queries)


def charge_pair(first, second, remaining):
    """Subtract the charge of a witness pair from `remaining`, and return the entry without its value."""
    amount = min(remaining[first], remaining[second])
    remaining[first] -= amount
    remaining[second] -= amount
    probed = first if remaining[first] == 0 else second
    return ("pair", first, second, amount, probed)


def charge_step(intervals, queries, remaining):
    """Charge the next step of the strategy, and return the entry without its value."""
    required = [name for query in queries for name in required_names(intervals, query)]
    if required:
        # The item is known from now on, so that its remaining price is not needed again.
        name = min(required)
        return ("required", name, remaining[name])
    first, second = min([pair for query in queries for pair in pair_names(intervals, query)])
    return charge_pair(first, second, remaining)


def full_prices(intervals, prices):
    """Return a dict with the price of every item."""
    return {name: price_of(prices, name) for name in item_names(intervals)}


def run_strategy(intervals, queries, values, prices):
    """Return the resulting interval list and the log of the strategy for checked arguments."""
    rows = list(intervals)
    remaining = full_prices(intervals, prices)
    log = []
    while not every_certain(rows, queries):
        entry = charge_step(rows, queries, remaining)
        probed = probed_name(entry)
        rows = probe(rows, values, probed)
        log.append(entry + (values[probed],))
    return (rows, log)


def resolve(intervals, queries, values, *, prices=None):
    """Probe by the strategy until all queries are certain."""
    check_problem(intervals, queries, prices)
    return run_strategy(intervals, queries, values, prices)
