"""The prices of probes."""

from doubtwell.errors import InvalidPrice, UnknownItem
from doubtwell.intervals import MAX_PRICE, item_names

DEFAULT_PRICE = 1


def check_price(name, price):
    """Raise InvalidPrice unless the price of the named item is in range."""
    if not 1 <= price <= MAX_PRICE:
        raise InvalidPrice(name)


def check_prices(intervals, prices):
    """Raise the first error of the prices of an interval list, if there is one."""
    if prices is None:
        return
    existing = item_names(intervals)
    for name in sorted(prices):
        if name not in existing:
            raise UnknownItem(name)
        check_price(name, prices[name])


def price_of(prices, name):
    """Return the price of an item, which need not have an entry."""
    if prices is None:
        return DEFAULT_PRICE
    return prices.get(name, DEFAULT_PRICE)


def total_price(prices, names):
    """Return the sum of the prices of the named items."""
    return sum([price_of(prices, name) for name in names])
