"""What the tests share: instances, and the rules of the document over exact fractions of Python."""

from fractions import Fraction
from itertools import combinations, permutations, product

NAMES = ["a", "ab", "b", "c", "d", "zzzzzz"]
KINDS = ["sort", "min", "max", "above", "compare"]
NOT_FRACTIONS = [(2, 4), (0, 2), (0, 0), (1, 0), (0, -1), (1, -2), (-2, -4), (10 ** 38, 5), (1,), (1, 2, 3)]


def whole(number):
    return (number, 1)


def as_pair(exact):
    return (exact.numerator, exact.denominator)


def row(name, low, high=None):
    """A tuple of an interval list with whole bounds; without an upper bound the item is known."""
    return (name, whole(low), whole(low if high is None else high))


def rows(**bounds):
    """An interval list: rows(a=(0, 10), b=5)."""
    made = [row(name, *(pair if isinstance(pair, tuple) else (pair,))) for name, pair in bounds.items()]
    return sorted(made)


def turned_rows(**bounds):
    """The interval list of `rows` with all values negated."""
    return rows(**{name: (-pair[1], -pair[0]) if isinstance(pair, tuple) else -pair for name, pair in bounds.items()})


def names_of(intervals):
    return [name for name, _, _ in intervals]


def unknown_names(intervals):
    return [name for name, low, high in intervals if low != high]


def query_names(query):
    return query[1:] if query[0] == "compare" else query[1]


def exact_bounds(intervals):
    return {name: (Fraction(*low), Fraction(*high)) for name, low, high in intervals}


def probe_all(intervals, values, names):
    return [(name, values[name], values[name]) if name in names else (name, low, high) for name, low, high in intervals]


# Instances


def some_instance(source, count, top=7):
    """Items with even bounds, known ones among them, and a scenario of integers."""
    intervals, values = [], {}
    for name in sorted(source.sample(NAMES, count)):
        low, high = sorted([2 * source.randrange(top), 2 * source.randrange(top)])
        if source.random() < 0.15:
            low = high = source.randrange(2 * top)
        intervals.append(row(name, low, high))
        values[name] = whole(low if low == high else source.randrange(low + 1, high))
    return intervals, values


def some_query(source, names, top=7):
    kind = source.choice(KINDS if len(names) > 1 else KINDS[:4])
    if kind == "compare":
        return ("compare", *source.sample(names, 2))
    chosen = tuple(source.sample(names, source.randint(1, len(names))))
    return (kind, chosen, whole(source.randrange(2 * top))) if kind == "above" else (kind, chosen)


def some_prices(source, names):
    if source.random() < 0.3:
        return None
    return {name: source.choice([1, 1, 2, 3, 5, 1000]) for name in names if source.random() < 0.8}


def every_row(name, top):
    """All tuples of one item with whole bounds from 0 to top."""
    return [row(name, low, high) for low in range(top + 1) for high in range(low, top + 1)]


def every_query(names, top):
    """One query of each kind over all names, and "above" with thresholds on and between the bounds."""
    found = [(kind, tuple(names)) for kind in ("sort", "min", "max")]
    found += [("above", tuple(names), as_pair(Fraction(half, 2))) for half in range(-1, 2 * top + 2)]
    return found + ([("compare", *names)] if len(names) == 2 else [])


GREAT = 10 ** 39 - 1000


def great_maps():
    """Functions that map small integers to fractions of up to 39 digits in the same order."""
    return [
        lambda at: (GREAT + at, GREAT + at + 1),
        lambda at: (-1, GREAT + at),
        lambda at: as_pair(Fraction(at - 6, GREAT)),
        lambda at: (-GREAT - 100 + at, 1),
        lambda at: as_pair(Fraction(GREAT * 7 + at, GREAT)),
    ]


def map_intervals(change, intervals):
    return [(name, change(low[0]), change(high[0])) for name, low, high in intervals]


def map_values(change, values):
    return {name: change(value[0]) for name, value in values.items()}


def map_query(change, query):
    return (*query[:2], change(query[2][0])) if query[0] == "above" else query


def map_log(change, log):
    return [(*entry[:-1], change(entry[-1][0])) for entry in log]


# Point 21, for small instances


def all_scenarios(intervals, threshold=None):
    """One scenario for each order of all values, bounds and the threshold."""
    bounds = exact_bounds(intervals)
    points = {bound for pair in bounds.values() for bound in pair}
    points = sorted(points | ({Fraction(*threshold)} if threshold else set()))
    count = len(unknown_names(intervals))
    candidates = list(points)
    for low, high in zip(points, points[1:]):
        candidates += [low + (high - low) * at / (count + 1) for at in range(1, count + 1)]
    choices = []
    for low, high in bounds.values():
        choices.append([low] if low == high else [point for point in candidates if low < point < high])
    return [dict(zip(bounds, chosen)) for chosen in product(*choices)]


def as_values(scenario):
    return {name: as_pair(value) for name, value in scenario.items()}


# Point 8


def correct_answers(query, scenario):
    names = query_names(query)
    if query[0] == "sort":
        ordered = sorted(scenario[name] for name in names)
        return {order for order in permutations(names) if [scenario[name] for name in order] == ordered}
    if query[0] == "above":
        return {tuple(sorted(name for name in names if scenario[name] > Fraction(*query[2])))}
    best = (max if query[0] == "max" else min)(scenario[name] for name in names)
    return {name for name in names if scenario[name] == best}


def certain_answers(intervals, query):
    """The answers that are correct in every scenario."""
    found = None
    for scenario in all_scenarios(intervals, query[2] if query[0] == "above" else None):
        correct = correct_answers(query, scenario)
        found = correct if found is None else found & correct
        if not found:
            return found
    return found


# Point 9


def rule_separated(first, second):
    return first[1] <= second[0] or second[1] <= first[0]


def rule_certain(intervals, query):
    bounds = exact_bounds(intervals)
    pairs = [bounds[name] for name in query_names(query)]
    if query[0] == "above":
        return not any(low < Fraction(*query[2]) < high for low, high in pairs)
    if query[0] in ("sort", "compare"):
        return all(rule_separated(first, second) for first, second in combinations(pairs, 2))
    found = False
    for at, (low, high) in enumerate(pairs):
        others = pairs[:at] + pairs[at + 1:]
        if query[0] == "min":
            found = found or all(high <= other[0] for other in others)
        else:
            found = found or all(low >= other[1] for other in others)
    return found


# Points 11 and 12


def query_bounds(intervals, query):
    bounds = exact_bounds(intervals)
    chosen = {name: bounds[name] for name in query_names(query)}
    if query[0] == "max":
        return {name: (-high, -low) for name, (low, high) in chosen.items()}
    return chosen


def split_bounds(bounds):
    known = {name: pair[0] for name, pair in bounds.items() if pair[0] == pair[1]}
    return known, {name: pair for name, pair in bounds.items() if name not in known}


def rule_frontier(known, unknown):
    if not unknown:
        return []
    least = min(low for low, _ in unknown.values())
    if known and min(known.values()) <= least:
        return []
    return [name for name in unknown if unknown[name][0] == least]


def rule_required(intervals, query):
    known, unknown = split_bounds(query_bounds(intervals, query))
    if query[0] == "above":
        return sorted(name for name, (low, high) in unknown.items() if low < Fraction(*query[2]) < high)
    found = []
    if query[0] in ("sort", "compare"):
        for name, (low, high) in unknown.items():
            inner = any(low <= pair[0] and pair[1] <= high for other, pair in unknown.items() if other != name)
            if inner or any(low < value < high for value in known.values()):
                found.append(name)
        return sorted(found)
    for name in rule_frontier(known, unknown):
        high = unknown[name][1]
        inner = any(pair[1] <= high for other, pair in unknown.items() if other != name)
        if inner or any(value < high for value in known.values()):
            found.append(name)
    return sorted(found)


def rule_pairs(intervals, query):
    known, unknown = split_bounds(query_bounds(intervals, query))
    if query[0] == "above":
        return []
    if query[0] in ("sort", "compare"):
        pairs = combinations(sorted(unknown), 2)
        return [(one, two) for one, two in pairs if not rule_separated(unknown[one], unknown[two])]
    first = rule_frontier(known, unknown)
    pairs = [(one, two) for one in first for two in unknown if one != two and unknown[two][0] < unknown[one][1]]
    return sorted({tuple(sorted(pair)) for pair in pairs})


# Points 13 and 14


def replay(intervals, queries, values, prices=None):
    """The interval list and the log of the strategy, and the names in the order of their probes."""
    remaining = {name: (prices or {}).get(name, 1) for name in names_of(intervals)}
    log, order = [], []
    while not all(rule_certain(intervals, query) for query in queries):
        required = {name for query in queries for name in rule_required(intervals, query)}
        if required:
            probed = min(required)
            entry = ("required", probed, remaining[probed])
        else:
            pair = min(pair for query in queries for pair in rule_pairs(intervals, query))
            amount = min(remaining[name] for name in pair)
            remaining.update({name: remaining[name] - amount for name in pair})
            probed = [name for name in pair if remaining[name] == 0][0]
            entry = ("pair", *pair, amount, probed)
        remaining[probed] = 0
        log.append((*entry, values[probed]))
        order.append(probed)
        intervals = probe_all(intervals, values, [probed])
    return intervals, log, order


def entry_amount(entry):
    return entry[2] if entry[0] == "required" else entry[3]


def entry_probed(entry):
    return entry[1] if entry[0] == "required" else entry[4]


def all_subsets(names):
    return [chosen for size in range(len(names) + 1) for chosen in combinations(names, size)]


def is_enough(intervals, queries, values, names):
    probed = probe_all(intervals, values, names)
    return all(rule_certain(probed, query) for query in queries)


def cheapest_price(intervals, queries, values, prices=None):
    """The price of the cheapest set that is sufficient for all queries in this scenario."""
    sets = [names for names in all_subsets(unknown_names(intervals)) if is_enough(intervals, queries, values, names)]
    return min(sum((prices or {}).get(name, 1) for name in names) for names in sets)
