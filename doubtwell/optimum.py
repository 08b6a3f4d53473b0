"""Cheapest sufficient sets of one query, and the certificates of their prices."""

from doubtwell.checks import check_problem
from doubtwell.intervals import are_separated, is_known, item_names, lies_inside, negated_values, read_values, row_of
from doubtwell.prices import price_of, total_price
from doubtwell.queries import asked_rows, query_rows
from doubtwell.rationals import at_most, less, smaller
from doubtwell.witnesses import required_names, unknown_rows


def inner_names(row, rows, found):
    """Return the other items whose values lie strictly between the bounds of a row, in ascending order."""
    return [other[0] for other in rows if other[0] != row[0] and lies_inside(found[other[0]], row)]


def forced_pairs(rows, found):
    """Return each unknown item that contains another value, with the smallest name that has one."""
    inner = [(row[0], inner_names(row, rows, found)) for row in unknown_rows(rows)]
    return [(name, others[0]) for name, others in inner if others]


def optional_rows(rows, forced):
    """Return the rows of the unknown items that are not forced."""
    names = [name for name, other in forced]
    return [row for row in unknown_rows(rows) if row[0] not in names]


def covers(row, other):
    """Tell whether an unknown item covers the end point of another one, or its own."""
    return less(row[1], other[2]) and at_most(other[2], row[2])


def by_upper_bound(rows):
    """Return the rows in ascending order of upper bound, then of name."""
    ranked = [(len([other for other in rows if less(other[2], row[2])]), row) for row in rows]
    return [row for rank, row in sorted(ranked)]


def sweep_charges(optional, prices):
    """Return the charges at the end points of the optional items."""
    remaining = {row[0]: price_of(prices, row[0]) for row in optional}
    charges = []
    for row in by_upper_bound(optional):
        amount = remaining[row[0]]
        if amount > 0:
            charges.append((row[0], amount))
            for other in optional:
                if covers(other, row):
                    remaining[other[0]] -= amount
    return charges


def skipped_rows(rows, charges):
    """Return the rows of the items that need no probe."""
    skipped = []
    for name, amount in reversed(charges):
        row = row_of(rows, name)
        if all([are_separated(row, other) for other in skipped]):
            skipped.append(row)
    return skipped


def cheapest_sweep(rows, found, prices):
    """Return the cheapest price, set and certificate of a "sort" or "compare" query."""
    forced = forced_pairs(rows, found)
    charges = sweep_charges(optional_rows(rows, forced), prices)
    skipped = skipped_rows(rows, charges)
    names = [row[0] for row in unknown_rows(rows) if row not in skipped]
    return (total_price(prices, names), names, ("sweep", forced, charges))


def least_value(found):
    """Return the smallest one of the values, of which there is at least one."""
    values = list(found.values())
    least = values[0]
    for value in values:
        least = smaller(value, least)
    return least


def starting_below(bound, rows):
    """Return the rows of the unknown items whose lower bound is less than this bound."""
    return [row for row in unknown_rows(rows) if less(row[1], bound)]


def open_options(rows, found):
    """Return for each unknown item that may stay the minimum without a probe its name and the rows to probe."""
    known = [row for row in rows if is_known(row)]
    options = []
    for row in unknown_rows(rows):
        others = [other for other in starting_below(row[2], rows) if other[0] != row[0]]
        if all([at_most(row[2], found[other[0]]) for other in others + known]):
            options.append((row[0], others))
    return options


def cheapest_option(rows, found, prices):
    """Return the cheapest price, set and certificate of a "min" query."""
    options = [(None, starting_below(least_value(found), rows))] + open_options(rows, found)
    priced = [(name, total_price(prices, item_names(chosen))) for name, chosen in options]
    cheapest_price = min([price for name, price in priced])
    fitting = [chosen for at, (name, chosen) in enumerate(options) if priced[at][1] == cheapest_price]
    return (cheapest_price, item_names(fitting[0]), ("options", priced))


def cheapest_set(intervals, query, found, prices):
    """Return the cheapest price, set and certificate of a valid query with these values of its items."""
    rows = query_rows(intervals, query)
    if query[0] == "above":
        names = required_names(intervals, query)
        return (total_price(prices, names), names, ("threshold", list(names)))
    if query[0] == "max":
        return cheapest_option(rows, negated_values(found), prices)
    if query[0] == "min":
        return cheapest_option(rows, found, prices)
    return cheapest_sweep(rows, found, prices)


def checked_values(intervals, query, values, prices):
    """Check the arguments of a function for one query, and return the values of its items."""
    check_problem(intervals, [query], prices)
    return read_values(values, asked_rows(intervals, query))


def cheapest(intervals, query, values, *, prices=None):
    """Return the cheapest price of a sufficient set, the list of its items, and a certificate."""
    found = checked_values(intervals, query, values, prices)
    return cheapest_set(intervals, query, found, prices)


def are_distinct_unknown(names, rows):
    """Tell whether these are distinct names of unknown items."""
    unknown = item_names(unknown_rows(rows))
    return all([name in unknown for name in names]) and len(set(names)) == len(names)


def is_inner(name, other, rows, found):
    """Tell whether another item of the query has its value strictly between the bounds of an item."""
    return other in inner_names(row_of(rows, name), rows, found)


def forced_hold(forced, rows, found):
    """Tell whether the forced pairs of a certificate are valid."""
    if not are_distinct_unknown([name for name, other in forced], rows):
        return False
    return all([is_inner(name, other, rows, found) for name, other in forced])


def covered_charge(row, charges, rows):
    """Return the sum of the charges at the end points that an unknown item covers."""
    return sum([amount for name, amount in charges if covers(row, row_of(rows, name))])


def charges_hold(charges, rows, optional, prices):
    """Tell whether the charges of a certificate are valid and pay for the optional items."""
    if not are_distinct_unknown([name for name, amount in charges], rows):
        return False
    if not all([amount >= 0 for name, amount in charges]):
        return False
    return all([covered_charge(row, charges, rows) >= price_of(prices, row[0]) for row in optional])


def sweep_bound(rows, found, certificate, prices):
    """Return the bound of a sweep certificate, or None if it is not valid."""
    if certificate[0] != "sweep" or len(certificate) != 3:
        return None
    forced, charges = certificate[1:]
    if not forced_hold(forced, rows, found):
        return None
    if not charges_hold(charges, rows, optional_rows(rows, forced), prices):
        return None
    total = total_price(prices, item_names(unknown_rows(rows)))
    return total - sum([amount for name, amount in charges])


def proven_bound(intervals, query, values, certificate, *, prices=None):
    """Return the bound that a certificate certifies, or None if it is not valid."""
    found = checked_values(intervals, query, values, prices)
    if query[0] in ("sort", "compare"):
        return sweep_bound(query_rows(intervals, query), found, certificate, prices)
    price, names, expected = cheapest_set(intervals, query, found, prices)
    return price if certificate == expected else None
