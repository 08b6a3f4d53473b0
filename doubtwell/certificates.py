"""Logs as certificates: their validation and their totals."""

from doubtwell.checks import check_problem
from doubtwell.intervals import item_names, lies_inside, row_of, with_value
from doubtwell.logs import charged_amount, charged_names, probed_name, spent_price, total_charge
from doubtwell.prices import check_price, price_of
from doubtwell.probing import every_certain
from doubtwell.rationals import check_fraction
from doubtwell.witnesses import pair_names, required_names, unknown_rows


def has_entry_shape(entry):
    """Tell whether a tuple has the length and the word of an entry."""
    return (len(entry), entry[:1]) in ((4, ("required",)), (6, ("pair",)))


def has_open_names(entry, rows):
    """Tell whether an entry has distinct names of unknown items and probes one of them."""
    names = charged_names(entry)
    unknown = item_names(unknown_rows(rows))
    if not all([name in unknown for name in names]):
        return False
    return len(set(names)) == len(names) and probed_name(entry) in names


def is_witnessed(entry, rows, queries):
    """Tell whether some query has the required item or the witness pair of an entry."""
    if entry[0] == "required":
        return any([entry[1] in required_names(rows, query) for query in queries])
    pair = (min(entry[1], entry[2]), max(entry[1], entry[2]))
    return any([pair in pair_names(rows, query) for query in queries])


def is_within_prices(entry, charged, prices):
    """Tell whether the amount of an entry is not negative and exceeds no price, with the charges before it."""
    amount = charged_amount(entry)
    return amount >= 0 and all([charged[name] + amount <= price_of(prices, name) for name in charged_names(entry)])


def pays_probe(entry, charged, prices):
    """Tell whether the charges up to an entry pay for the item that it probes."""
    probed = probed_name(entry)
    return charged[probed] + charged_amount(entry) >= price_of(prices, probed)


def has_possible_value(entry, rows):
    """Tell whether the value of an entry lies strictly between the bounds of its probed item."""
    check_fraction(entry[-1])
    return lies_inside(entry[-1], row_of(rows, probed_name(entry)))


def entry_error(entry, rows, queries, charged, prices):
    """Return the code of the first error of an entry at this point, or None."""
    if not has_entry_shape(entry):
        return "shape"
    if not has_open_names(entry, rows):
        return "name"
    if not is_witnessed(entry, rows, queries):
        return "witness"
    if not is_within_prices(entry, charged, prices):
        return "amount"
    if not pays_probe(entry, charged, prices):
        return "price"
    if not has_possible_value(entry, rows):
        return "value"
    return None


def check_log(intervals, queries, log, *, prices=None):
    """Return None if a log is valid, otherwise the index and the code of its first error."""
    check_problem(intervals, queries, prices)
    rows = list(intervals)
    charged = {name: 0 for name in item_names(intervals)}
    for index, entry in enumerate(log):
        code = entry_error(entry, rows, queries, charged, prices)
        if code is not None:
            return (index, code)
        for name in charged_names(entry):
            charged[name] += charged_amount(entry)
        rows = with_value(rows, probed_name(entry), entry[-1])
    if not every_certain(rows, queries):
        return (len(log), "uncertain")
    return None


def log_totals(log, *, prices=None):
    """Return the spent price and the total charge of a log."""
    if prices is not None:
        for name in sorted(prices):
            check_price(name, prices[name])
    return (spent_price(log, prices), total_charge(log))
