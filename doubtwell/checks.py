"""The checks that most functions begin with."""

from doubtwell.intervals import check_intervals
from doubtwell.prices import check_prices
from doubtwell.queries import check_queries


def check_problem(intervals, queries, prices=None):
    """Raise the first error of an interval list, its queries and its prices, if there is one."""
    check_intervals(intervals)
    check_queries(intervals, queries)
    check_prices(intervals, prices)
