"""What the tests share: instances, and the rules of the document over exact fractions of Python."""

import copy
import unittest
from fractions import Fraction
from itertools import combinations, permutations, product

from doubtwell.errors import NotFound, QueryError

NAMES = ["a", "ab", "b", "c", "d", "zzzzzz"]
KINDS = ["sort", "min", "max", "above", "compare"]
NOT_FRACTIONS = [(2, 4), (0, 2), (0, 0), (1, 0), (0, -1), (1, -2), (-2, -4), (10 ** 38, 5), (1,), (1, 2, 3)]


class ErrorCase(unittest.TestCase):
    def check_error(self, expected, call, *arguments, **more):
        """The call raises an error with the class, the code and the attribute of the expected one."""
        with self.assertRaises((QueryError, NotFound)) as caught:
            call(*arguments, **more)
        self.assertIs(type(caught.exception), type(expected))
        self.assertEqual(vars(caught.exception), vars(expected))

    def check_unchanged(self, call, *arguments, **more):
        """The call leaves its arguments as they were, also if it raises an error; it returns equal results twice."""
        before = copy.deepcopy((arguments, more))
        results = []
        for _ in range(2):
            try:
                results.append(call(*arguments, **more))
            except (QueryError, NotFound) as error:
                results.append(vars(error))
            self.assertEqual((arguments, more), before)
            self.assertEqual(repr((arguments, more)), repr(before))
        self.assertEqual(results[0], results[1])
        return results[0]


def parts_of(result):
    """All lists and dicts of a result."""
    if isinstance(result, dict):
        return [result] + [part for value in result.values() for part in parts_of(value)]
    if not isinstance(result, (list, tuple)):
        return []
    return [result] * isinstance(result, list) + [part for entry in result for part in parts_of(entry)]


def whole(number):
    return (number, 1)


def as_pair(exact):
    return (exact.numerator, exact.denominator)


def row(name, low, high=None):
    """A tuple of an interval list with whole bounds; without an upper bound the item is known."""
    return (name, whole(low), whole(low if high is None else high))


def rows(**bounds):
    """An interval list: rows(a=(0, 10), b=5)."""
    made = [row(name, *(pair if isinstance(pair, tuple) else (pair,))) for name, pair in bounds.items()]
    return sorted(made)


def turned_rows(**bounds):
    """The interval list of `rows` with all values negated."""
    return rows(**{name: (-pair[1], -pair[0]) if isinstance(pair, tuple) else -pair for name, pair in bounds.items()})


def names_of(intervals):
    return [name for name, _, _ in intervals]


def unknown_names(intervals):
    return [name for name, low, high in intervals if low != high]


def query_names(query):
    return query[1:] if query[0] == "compare" else query[1]


def exact_bounds(intervals):
    return {name: (Fraction(*low), Fraction(*high)) for name, low, high in intervals}


def probe_all(intervals, values, names):
    return [(name, values[name], values[name]) if name in names else (name, low, high) for name, low, high in intervals]


# Instances


def some_instance(source, count, top=7):
    """Items with even bounds, known ones among them, and a scenario of integers."""
    intervals, values = [], {}
    for name in sorted(source.sample(NAMES, count)):
        low, high = sorted([2 * source.randrange(top), 2 * source.randrange(top)])
        if source.random() < 0.15:
            low = high = source.randrange(2 * top)
        intervals.append(row(name, low, high))
        values[name] = whole(low if low == high else source.randrange(low + 1, high))
    return intervals, values


def some_query(source, names, top=7):
    kind = source.choice(KINDS if len(names) > 1 else KINDS[:4])
    if kind == "compare":
        return ("compare", *source.sample(names, 2))
    chosen = tuple(source.sample(names, source.randint(1, len(names))))
    return (kind, chosen, whole(source.randrange(2 * top))) if kind == "above" else (kind, chosen)


def some_prices(source, names):
    if source.random() < 0.3:
        return None
    return {name: source.choice([1, 1, 2, 3, 5, 1000]) for name in names if source.random() < 0.8}


def price_of(prices, name):
    return (prices or {}).get(name, 1)


def cost(prices, names):
    return sum(price_of(prices, name) for name in names)


def some_case(source, most=5, queries=3, least=0):
    """Intervals, queries, a scenario and prices."""
    intervals, values = some_instance(source, source.randint(1, most))
    names = names_of(intervals)
    asked = [some_query(source, names) for _ in range(source.randint(least, queries))]
    return intervals, asked, values, some_prices(source, names)


def some_single_case(source, most=6):
    """Intervals, one query, a scenario and prices."""
    intervals, asked, values, prices = some_case(source, most, 1, 1)
    return intervals, asked[0], values, prices


def every_row(name, top):
    """All tuples of one item with whole bounds from 0 to top."""
    return [row(name, low, high) for low in range(top + 1) for high in range(low, top + 1)]


def every_query(names, top):
    """One query of each kind over all names, and "above" with thresholds on and between the bounds."""
    found = [(kind, tuple(names)) for kind in ("sort", "min", "max")]
    found += [("above", tuple(names), as_pair(Fraction(half, 2))) for half in range(-1, 2 * top + 2)]
    return found + ([("compare", *names)] if len(names) == 2 else [])


GREAT = 10 ** 39 - 1000


def great_maps():
    """Functions that map small integers to fractions of up to 39 digits in the same order."""
    return [
        lambda at: (GREAT + at, GREAT + at + 1),
        lambda at: (-1, GREAT + at),
        lambda at: as_pair(Fraction(at - 6, GREAT)),
        lambda at: (-GREAT - 100 + at, 1),
        lambda at: as_pair(Fraction(GREAT * 7 + at, GREAT)),
    ]


def map_intervals(change, intervals):
    return [(name, change(low[0]), change(high[0])) for name, low, high in intervals]


def map_values(change, values):
    return {name: change(value[0]) for name, value in values.items()}


def map_query(change, query):
    return (*query[:2], change(query[2][0])) if query[0] == "above" else query


def map_log(change, log):
    return [(*entry[:-1], change(entry[-1][0])) for entry in log]


# Point 21, for small instances


def all_scenarios(intervals, threshold=None):
    """One scenario for each order of all values, bounds and the threshold."""
    bounds = exact_bounds(intervals)
    points = {bound for pair in bounds.values() for bound in pair}
    points = sorted(points | ({Fraction(*threshold)} if threshold else set()))
    count = len(unknown_names(intervals))
    candidates = list(points)
    for low, high in zip(points, points[1:]):
        candidates += [low + (high - low) * at / (count + 1) for at in range(1, count + 1)]
    choices = []
    for low, high in bounds.values():
        choices.append([low] if low == high else [point for point in candidates if low < point < high])
    return [dict(zip(bounds, chosen)) for chosen in product(*choices)]


def as_values(scenario):
    return {name: as_pair(value) for name, value in scenario.items()}


# Point 8


def correct_answers(query, scenario):
    names = query_names(query)
    if query[0] == "sort":
        ordered = sorted(scenario[name] for name in names)
        return {order for order in permutations(names) if [scenario[name] for name in order] == ordered}
    if query[0] == "above":
        return {tuple(sorted(name for name in names if scenario[name] > Fraction(*query[2])))}
    best = (max if query[0] == "max" else min)(scenario[name] for name in names)
    return {name for name in names if scenario[name] == best}


def certain_answers(intervals, query):
    """The answers that are correct in every scenario."""
    found = None
    for scenario in all_scenarios(intervals, query[2] if query[0] == "above" else None):
        correct = correct_answers(query, scenario)
        found = correct if found is None else found & correct
        if not found:
            return found
    return found


# Point 9


def rule_separated(first, second):
    return first[1] <= second[0] or second[1] <= first[0]


def rule_certain(intervals, query):
    bounds = exact_bounds(intervals)
    pairs = [bounds[name] for name in query_names(query)]
    if query[0] == "above":
        return not any(low < Fraction(*query[2]) < high for low, high in pairs)
    if query[0] in ("sort", "compare"):
        return all(rule_separated(first, second) for first, second in combinations(pairs, 2))
    found = False
    for at, (low, high) in enumerate(pairs):
        others = pairs[:at] + pairs[at + 1:]
        if query[0] == "min":
            found = found or all(high <= other[0] for other in others)
        else:
            found = found or all(low >= other[1] for other in others)
    return found


# Points 11 and 12


def query_bounds(intervals, query):
    bounds = exact_bounds(intervals)
    chosen = {name: bounds[name] for name in query_names(query)}
    if query[0] == "max":
        return {name: (-high, -low) for name, (low, high) in chosen.items()}
    return chosen


def split_bounds(bounds):
    known = {name: pair[0] for name, pair in bounds.items() if pair[0] == pair[1]}
    return known, {name: pair for name, pair in bounds.items() if name not in known}


def rule_frontier(known, unknown):
    if not unknown:
        return []
    least = min(low for low, _ in unknown.values())
    if known and min(known.values()) <= least:
        return []
    return [name for name in unknown if unknown[name][0] == least]


def rule_required(intervals, query):
    known, unknown = split_bounds(query_bounds(intervals, query))
    if query[0] == "above":
        return sorted(name for name, (low, high) in unknown.items() if low < Fraction(*query[2]) < high)
    found = []
    if query[0] in ("sort", "compare"):
        for name, (low, high) in unknown.items():
            inner = any(low <= pair[0] and pair[1] <= high for other, pair in unknown.items() if other != name)
            if inner or any(low < value < high for value in known.values()):
                found.append(name)
        return sorted(found)
    for name in rule_frontier(known, unknown):
        high = unknown[name][1]
        inner = any(pair[1] <= high for other, pair in unknown.items() if other != name)
        if inner or any(value < high for value in known.values()):
            found.append(name)
    return sorted(found)


def rule_pairs(intervals, query):
    known, unknown = split_bounds(query_bounds(intervals, query))
    if query[0] == "above":
        return []
    if query[0] in ("sort", "compare"):
        pairs = combinations(sorted(unknown), 2)
        return [(one, two) for one, two in pairs if not rule_separated(unknown[one], unknown[two])]
    first = rule_frontier(known, unknown)
    pairs = [(one, two) for one in first for two in unknown if one != two and unknown[two][0] < unknown[one][1]]
    return sorted({tuple(sorted(pair)) for pair in pairs})


# Points 13 and 14


def replay(intervals, queries, values, prices=None):
    """The interval list and the log of the strategy, and the names in the order of their probes."""
    remaining = {name: (prices or {}).get(name, 1) for name in names_of(intervals)}
    log, order = [], []
    while not all(rule_certain(intervals, query) for query in queries):
        required = {name for query in queries for name in rule_required(intervals, query)}
        if required:
            probed = min(required)
            entry = ("required", probed, remaining[probed])
        else:
            pair = min(pair for query in queries for pair in rule_pairs(intervals, query))
            amount = min(remaining[name] for name in pair)
            remaining.update({name: remaining[name] - amount for name in pair})
            probed = [name for name in pair if remaining[name] == 0][0]
            entry = ("pair", *pair, amount, probed)
        remaining[probed] = 0
        log.append((*entry, values[probed]))
        order.append(probed)
        intervals = probe_all(intervals, values, [probed])
    return intervals, log, order


def entry_amount(entry):
    return entry[2] if entry[0] == "required" else entry[3]


def entry_probed(entry):
    return entry[1] if entry[0] == "required" else entry[4]


def entry_names(entry):
    return list(entry[1:2] if entry[0] == "required" else entry[1:3])


def all_subsets(names):
    return [chosen for size in range(len(names) + 1) for chosen in combinations(names, size)]


def is_enough(intervals, queries, values, names):
    probed = probe_all(intervals, values, names)
    return all(rule_certain(probed, query) for query in queries)


def cheapest_price(intervals, queries, values, prices=None):
    """The price of the cheapest set that is sufficient for all queries in this scenario."""
    sets = [names for names in all_subsets(unknown_names(intervals)) if is_enough(intervals, queries, values, names)]
    return min(sum((prices or {}).get(name, 1) for name in names) for names in sets)


# Point 15


def rule_entry_error(entry, intervals, queries, charged, prices):
    if not (len(entry) == 4 and entry[0] == "required" or len(entry) == 6 and entry[0] == "pair"):
        return "shape"
    names = entry_names(entry)
    if len(set(names)) < len(names) or entry_probed(entry) not in names or set(names) - set(unknown_names(intervals)):
        return "name"
    if entry[0] == "required":
        reported = [[name] for query in queries for name in rule_required(intervals, query)]
    else:
        reported = [sorted(pair) for query in queries for pair in rule_pairs(intervals, query)]
    if sorted(names) not in reported:
        return "witness"
    amount, probed = entry_amount(entry), entry_probed(entry)
    if amount < 0 or any(charged.get(name, 0) + amount > price_of(prices, name) for name in names):
        return "amount"
    if charged.get(probed, 0) + amount < price_of(prices, probed):
        return "price"
    low, high = query_bounds(intervals, ("min", (probed,)))[probed]
    return None if low < Fraction(*entry[-1]) < high else "value"


def rule_check_log(intervals, queries, log, prices=None):
    charged = {}
    for index, entry in enumerate(log):
        code = rule_entry_error(entry, intervals, queries, charged, prices)
        if code:
            return (index, code)
        for name in entry_names(entry):
            charged[name] = charged.get(name, 0) + entry_amount(entry)
        intervals = probe_all(intervals, {entry_probed(entry): entry[-1]}, [entry_probed(entry)])
    return None if all(rule_certain(intervals, query) for query in queries) else (len(log), "uncertain")


def some_valid_log(source, intervals, queries, values, prices):
    """A valid log that takes any required item or witness pair next, in either order of its names."""
    remaining = {name: price_of(prices, name) for name in names_of(intervals)}
    log = []
    while not all(rule_certain(intervals, query) for query in queries):
        steps = [(name,) for query in queries for name in rule_required(intervals, query)]
        steps += [pair for query in queries for pair in rule_pairs(intervals, query)]
        names = list(source.choice(steps))
        source.shuffle(names)
        amount = min(remaining[name] for name in names)
        for name in names:
            remaining[name] -= amount
        probed = source.choice([name for name in names if remaining[name] == 0])
        if len(names) == 1:
            log.append(("required", probed, amount, values[probed]))
        else:
            log.append(("pair", *names, amount, probed, values[probed]))
        intervals = probe_all(intervals, values, [probed])
    return log


def changed_entry(source, entry, names):
    """One part of an entry changed, or its shape, if it was not changed before."""
    if len(entry) != {"required": 4, "pair": 6}.get(entry[0] if entry else ""):
        return entry
    entry = list(entry)
    at = source.randrange(-1, len(entry))
    if at == -1:
        return tuple(source.choice([entry[1:], entry[:-1], entry + [entry[-1]], entry[:-2] + entry[-1:], []]))
    if at == 0:
        entry[0] = source.choice(["required", "pair", "pairs", "", "a"])
    elif at == len(entry) - 1:
        entry[at] = whole(source.randrange(-1, 15))
    elif isinstance(entry[at], int):
        entry[at] += source.choice([-entry[at], -1, 1, 2, -1000, 1000])
    else:
        entry[at] = source.choice([*names, "z", ""])
    return tuple(entry)


def changed_log(source, log, names):
    """A log with an entry dropped, repeated or changed, or with two entries swapped."""
    log = list(log)
    at, other = source.randrange(len(log)), source.randrange(len(log))
    change = source.randrange(6)
    if change == 0:
        del log[at]
    elif change == 1:
        log.insert(other, log[at])
    elif change == 2:
        log[at], log[other] = log[other], log[at]
    else:
        log[at] = changed_entry(source, log[at], names)
    return log


# Points 16 to 19


def split_query(intervals, query):
    return split_bounds(query_bounds(intervals, query))


def exact_values(query, values):
    sign = -1 if query[0] == "max" else 1
    return {name: sign * Fraction(*values[name]) for name in query_names(query)}


def rule_covers(first, second):
    return first[0] < second[1] <= first[1]


def rule_sweep(intervals, query, values, prices=None):
    found = exact_values(query, values)
    _, unknown = split_query(intervals, query)
    inner = {}
    for name, (low, high) in unknown.items():
        inner[name] = sorted(other for other in found if other != name and low < found[other] < high)
    forced = sorted((name, others[0]) for name, others in inner.items() if others)
    optional = sorted((name for name in unknown if not inner[name]), key=lambda name: (unknown[name][1], name))
    remaining = {name: price_of(prices, name) for name in optional}
    charges = []
    for name in optional:
        amount = remaining[name]
        if amount > 0:
            charges.append((name, amount))
            for other in optional:
                if rule_covers(unknown[other], unknown[name]):
                    remaining[other] -= amount
    skipped = []
    for name, _ in charges[::-1]:
        if all(rule_separated(unknown[name], unknown[other]) for other in skipped):
            skipped.append(name)
    names = sorted(set(unknown) - set(skipped))
    return cost(prices, names), names, ("sweep", forced, charges)


def rule_options(intervals, query, values, prices=None):
    found = exact_values(query, values)
    known, unknown = split_query(intervals, query)
    sets = [(None, sorted(name for name in unknown if unknown[name][0] < min(found.values())))]
    for name in sorted(unknown):
        high = unknown[name][1]
        others = sorted(other for other in unknown if other != name and unknown[other][0] < high)
        if all(found[other] >= high for other in [*others, *known]):
            sets.append((name, others))
    lines = [(name, cost(prices, names)) for name, names in sets]
    best = min(price for _, price in lines)
    chosen = [names for (_, names), (_, price) in zip(sets, lines) if price == best][0]
    return best, chosen, ("options", lines)


def rule_cheapest(intervals, query, values, prices=None):
    if query[0] == "above":
        names = rule_required(intervals, query)
        return cost(prices, names), names, ("threshold", names)
    rule = rule_options if query[0] in ("min", "max") else rule_sweep
    return rule(intervals, query, values, prices)


# Point 20


def rule_bound(intervals, query, values, certificate, prices=None):
    if query[0] not in ("sort", "compare"):
        price, _, expected = rule_cheapest(intervals, query, values, prices)
        return price if certificate == expected else None
    if certificate[0] != "sweep" or len(certificate) != 3:
        return None
    found = exact_values(query, values)
    _, unknown = split_query(intervals, query)
    _, forced, charges = certificate
    for pairs in (forced, charges):
        names = [name for name, _ in pairs]
        if len(set(names)) < len(names) or set(names) - set(unknown):
            return None
    for name, other in forced:
        if other == name or other not in found or not unknown[name][0] < found[other] < unknown[name][1]:
            return None
    if any(amount < 0 for _, amount in charges):
        return None
    for name in set(unknown) - {name for name, _ in forced}:
        paid = sum(amount for other, amount in charges if rule_covers(unknown[name], unknown[other]))
        if paid < price_of(prices, name):
            return None
    return cost(prices, unknown) - sum(amount for _, amount in charges)
