"""The entries of logs.

An entry is ("required", name, amount, value) or ("pair", first, second, amount, probed, value).
"""

from doubtwell.prices import total_price


def charged_names(entry):
    """Return the names to which an entry charges its amount."""
    return entry[1:2] if entry[0] == "required" else entry[1:3]


def charged_amount(entry):
    """Return the amount that an entry charges to each of its names."""
    return entry[2] if entry[0] == "required" else entry[3]


def probed_name(entry):
    """Return the name that an entry probes."""
    return entry[1] if entry[0] == "required" else entry[4]


def spent_price(log, prices):
    """Return the sum of the prices of the probed items, one for each entry."""
    return total_price(prices, [probed_name(entry) for entry in log])


def total_charge(log):
    """Return the sum of the amounts of a log."""
    return sum([charged_amount(entry) for entry in log])
