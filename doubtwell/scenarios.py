"""Representative scenarios, and the highest price that the strategy may spend."""

from doubtwell.checks import check_problem
from doubtwell.errors import LimitExceeded
from doubtwell.intervals import check_intervals, is_known, lies_inside, with_value
from doubtwell.logs import probed_name
from doubtwell.prices import price_of
from doubtwell.probing import charge_step, every_certain, full_prices
from doubtwell.rationals import ascending, point_between
from doubtwell.witnesses import unknown_rows

MAX_SCENARIOS = 3000


def candidate_points(intervals):
    """Return the candidates for the values of all unknown items."""
    bounds = ascending([bound for name, low, high in intervals for bound in (low, high)])
    count = len(unknown_rows(intervals))
    points = list(bounds)
    for low, high in zip(bounds, bounds[1:]):
        points.extend([point_between(low, high, step, count + 1) for step in range(1, count + 1)])
    return points


def value_choices(intervals):
    """Return a dict with the list of the values that each item has in representative scenarios."""
    points = candidate_points(intervals)
    choices = {}
    for row in intervals:
        choices[row[0]] = [row[1]] if is_known(row) else [point for point in points if lies_inside(point, row)]
    return choices


def checked_choices(intervals):
    """Return the choices of values, unless there are too many scenarios."""
    choices = value_choices(intervals)
    count = 1
    for name in choices:
        count *= len(choices[name])
    if count > MAX_SCENARIOS:
        raise LimitExceeded(count)
    return choices


def scenarios(intervals):
    """Return the list of the representative scenarios."""
    check_intervals(intervals)
    choices = checked_choices(intervals)
    found = [{}]
    for name in choices:
        found = [{**scenario, name: value} for scenario in found for value in choices[name]]
    return found


def worst_branch(rows, queries, remaining, prices, choices):
    """Return the highest price that the strategy can still spend, and the values of the items that it then probes.

    The strategy sees only the values that it has probed, so that scenarios share their first steps.
    """
    if every_certain(rows, queries):
        return (0, {})
    left = dict(remaining)
    name = probed_name(charge_step(rows, queries, left))
    highest, chosen = 0, {}
    for value in choices[name]:
        price, found = worst_branch(with_value(rows, name, value), queries, left, prices, choices)
        if price >= highest:
            highest, chosen = price, {**found, name: value}
    return (highest + price_of(prices, name), chosen)


def worst_case(intervals, queries, *, prices=None):
    """Return the highest price that the strategy spends in any scenario, and a scenario in which it does."""
    check_problem(intervals, queries, prices)
    choices = checked_choices(intervals)
    price, chosen = worst_branch(intervals, queries, full_prices(intervals, prices), prices, choices)
    unread = {name: choices[name][0] for name in choices}
    return (price, {**unread, **chosen})
