"""Points 2, 24, 25 and 26: sequences of calls of a store against a plain model, failing calls among them."""

import copy
import random
import unittest

from doubtwell import errors
from doubtwell.errors import NotFound, QueryError
from doubtwell.queries import answer
from doubtwell.store import Store

from helpers import NAMES, cost, entry_probed, query_names, replay, rule_certain, some_query, whole

BAD_QUERIES = [("min", ()), ("min", ("nosuch",)), ("median", ("a",)), ("compare", "a", "a"), ()]


class Model:
    """A store that keeps a full copy of everything at each step."""

    def __init__(self, capacity):
        self.capacity = capacity
        self.state = {"items": {}, "prices": {}, "spent": 0, "log": []}
        self.before = []
        self.after = []

    def intervals(self):
        return sorted((name, *bounds) for name, bounds in self.state["items"].items())

    def change(self):
        """The state to change, after the old one was kept."""
        self.before.append(copy.deepcopy(self.state))
        self.after = []
        return self.state

    def need(self, condition, error):
        if not condition:
            raise error

    def check_bounds(self, low, high):
        self.need(is_reduced(low) and is_reduced(high), errors.InvalidFraction())
        self.need(low[0] * high[1] < high[0] * low[1], errors.InvalidBounds())

    def check_queries(self, queries):
        self.need(len(queries) <= 8, errors.InvalidQuery(8))
        for index, query in enumerate(queries):
            wrong = query in BAD_QUERIES or set(query_names(query)) - set(self.state["items"])
            self.need(not wrong, errors.InvalidQuery(index))

    def add_item(self, name, low, high, price=1):
        self.need(name in NAMES, errors.InvalidName())
        self.need(name not in self.state["items"], errors.DuplicateName(name))
        self.need(len(self.state["items"]) < self.capacity, errors.CapacityExceeded())
        self.check_bounds(low, high)
        self.need(1 <= price <= 1000, errors.InvalidPrice(name))
        state = self.change()
        state["items"][name] = (low, high)
        state["prices"][name] = price

    def remove_item(self, name):
        self.need(name in self.state["items"], errors.UnknownItem(name))
        state = self.change()
        del state["prices"][name]
        return state["items"].pop(name)

    def set_interval(self, name, low, high):
        self.need(name in self.state["items"], errors.UnknownItem(name))
        self.check_bounds(low, high)
        state = self.change()
        previous = state["items"][name]
        state["items"][name] = (low, high)
        return previous

    def set_price(self, name, price):
        self.need(name in self.state["items"], errors.UnknownItem(name))
        self.need(1 <= price <= 1000, errors.InvalidPrice(name))
        state = self.change()
        previous = state["prices"][name]
        state["prices"][name] = price
        return previous

    def solve(self, queries, values):
        self.check_queries(queries)
        intervals = self.intervals()
        full = {name: values.get(name, whole(-99)) for name, _, _ in intervals}
        prices = dict(self.state["prices"])
        final, log, order = replay_until_bad(intervals, queries, full, prices)
        for name in order:
            self.need(name in values, errors.MissingValue(name))
            self.need(is_reduced(values[name]), errors.InvalidFraction())
            low, high = self.state["items"][name]
            self.need(low[0] < values[name][0] < high[0], errors.InvalidValue(name))
        self.state["items"] = {name: (low, high) for name, low, high in final}
        self.state["spent"] += cost(prices, [entry_probed(entry) for entry in log])
        self.state["log"] = log
        return [answer(final, query) for query in queries]

    def resolve(self, queries, values):
        return self.resolve_all([queries], values)[0]

    def resolve_all(self, batches, values):
        kept = copy.deepcopy(self.state)
        try:
            found = [self.solve(queries, values) for queries in batches]
        except (QueryError, NotFound):
            self.state = kept
            raise
        if batches:
            self.before.append(kept)
            self.after = []
        return found

    def undo(self):
        self.need(self.before, errors.NoHistory())
        self.after.append(self.state)
        self.state = self.before.pop()

    def redo(self):
        self.need(self.after, errors.NoHistory())
        self.before.append(self.state)
        self.state = self.after.pop()

    def answers(self, queries):
        self.check_queries(queries)
        for index, query in enumerate(queries):
            self.need(rule_certain(self.intervals(), query), errors.Uncertain(index))
        return [answer(self.intervals(), query) for query in queries]

    def answer(self, query):
        return self.answers([query])[0]


def is_reduced(value):
    """The fractions of these tests are whole numbers, or not reduced."""
    return value[1] == 1


def replay_until_bad(intervals, queries, values, prices):
    """The replay of the strategy, or the probes up to the first value that is not possible."""
    bounds = {name: (low[0], high[0]) for name, low, high in intervals}
    order = []
    # An impossible value is replaced by a possible one to find the next probe, and the replay is cut off behind it.
    possible = {}
    for name, (low, high) in bounds.items():
        value = values[name]
        fine = value[1] == 1 and (low < value[0] < high or low == high)
        possible[name] = value if fine else (2 * low + 1, 2)
    final, log, probed = replay(intervals, queries, possible, prices)
    for name in probed:
        order.append(name)
        if possible[name] != values[name]:
            break
    return final, log, order


def some_values(source, model):
    """A value for each item, some of them missing, malformed or impossible."""
    values = {}
    for name, low, high in model.intervals():
        values[name] = low if low == high else whole(source.randrange(low[0] + 1, high[0]))
        if source.random() < 0.04:
            values[name] = source.choice([(2, 4), low, high, whole(-99)])
        if source.random() < 0.02:
            del values[name]
    return values


def some_queries(source, model):
    names = sorted(model.state["items"])
    queries = [some_query(source, names) for _ in range(source.choice([0, 1, 1, 2, 3]))] if names else []
    if source.random() < 0.05:
        queries.append(source.choice(BAD_QUERIES))
    if source.random() < 0.02 and queries:
        queries = (queries * 9)[:9]
    return queries


def some_bounds(source):
    low = 2 * source.randrange(7)
    high = low + 2 * source.choice([1, 2, 3, 4, 5, 5])
    if source.random() < 0.1:
        return source.choice([(whole(high), whole(low)), (whole(low), whole(low)), ((2, 4), whole(low)), (whole(low), (1, 0))])
    return whole(low), whole(high)


def some_call(source, model):
    """The name of a method with its arguments and keyword arguments."""
    name = source.choice(NAMES + ["A"] * (source.random() < 0.1))
    price = source.choice([1, 2, 3, 7, 1000, 1000, 0, 1001])
    method = source.choice(
        ["add_item"] * 4 + ["remove_item", "set_interval", "set_price"] + ["resolve"] * 3
        + ["resolve_all", "undo", "undo", "redo", "redo", "answer", "answers"]
    )
    if method == "add_item":
        return method, (name, *some_bounds(source)), {"price": price} if source.random() < 0.7 else {}
    if method == "set_interval":
        return method, (name, *some_bounds(source)), {}
    if method == "set_price":
        return method, (name, price), {}
    if method == "remove_item":
        return method, (name,), {}
    if method == "resolve":
        return method, (some_queries(source, model), some_values(source, model)), {}
    if method == "resolve_all":
        batches = [some_queries(source, model) for _ in range(source.randrange(4))]
        return method, (batches, some_values(source, model)), {}
    if method == "answers":
        return method, (some_queries(source, model),), {}
    if method == "answer":
        queries = some_queries(source, model) or [("min", ("nosuch",))]
        return method, (queries[0],), {}
    return method, (), {}


def outcome(target, call):
    """What a call returns, or the error that it raises."""
    method, arguments, more = call
    try:
        return ("returned", getattr(target, method)(*arguments, **more))
    except (QueryError, NotFound) as error:
        return (type(error), vars(error))


class Sequences(unittest.TestCase):
    def check_same(self, store, model):
        intervals, state = model.intervals(), model.state
        known = len([name for name, low, high in intervals if low == high])
        self.assertEqual(store.intervals(), intervals)
        self.assertEqual(store.prices(), state["prices"])
        self.assertEqual((store.spent(), store.log()), (state["spent"], state["log"]))
        self.assertEqual(store.history(), (len(model.before), len(model.after)))
        self.assertEqual(len(store), len(intervals))
        self.assertEqual(repr(store), f"Store({len(intervals)} items, {known} known, spent {state['spent']})")

    def check_call(self, store, model, call):
        given = copy.deepcopy(call)
        expected = outcome(model, copy.deepcopy(call))
        self.assertEqual(outcome(store, call), expected)
        self.assertEqual(call, given)
        self.check_same(store, model)
        return expected

    def test_one_store(self):
        seen = set()
        for seed in range(150):
            source = random.Random(seed)
            capacity = source.choice([3, 5, 24])
            store, model = Store(capacity=capacity), Model(capacity)
            for _ in range(60):
                call = some_call(source, model)
                seen.add((call[0], self.check_call(store, model, call)[0]))
        expected = {
            "add_item": [errors.InvalidName, errors.DuplicateName, errors.CapacityExceeded, errors.InvalidFraction,
                         errors.InvalidBounds, errors.InvalidPrice],
            "remove_item": [errors.UnknownItem],
            "set_interval": [errors.UnknownItem, errors.InvalidFraction, errors.InvalidBounds],
            "set_price": [errors.UnknownItem, errors.InvalidPrice],
            "resolve": [errors.InvalidQuery, errors.MissingValue, errors.InvalidFraction, errors.InvalidValue],
            "resolve_all": [errors.InvalidQuery, errors.MissingValue, errors.InvalidFraction, errors.InvalidValue],
            "undo": [errors.NoHistory],
            "redo": [errors.NoHistory],
            "answer": [errors.InvalidQuery, errors.Uncertain],
            "answers": [errors.InvalidQuery, errors.Uncertain],
        }
        for method, kinds in expected.items():
            for kind in ["returned", *kinds]:
                self.assertIn((method, kind), seen)

    def test_stores_and_their_clones(self):
        for seed in range(40):
            source = random.Random(1000 + seed)
            pairs = [(Store(capacity=4), Model(4))]
            for _ in range(120):
                store, model = source.choice(pairs)
                self.check_call(store, model, some_call(source, model))
                if source.random() < 0.05 and len(pairs) < 5:
                    pairs.append((store.clone(), copy.deepcopy(model)))
                for other, twin in pairs:
                    self.check_same(other, twin)
            for first, one in pairs:
                for second, two in pairs:
                    same = one.intervals() == two.intervals() and one.state["prices"] == two.state["prices"]
                    self.assertIs(first == second, same)
                    self.assertIs(first != second, not same)

    def test_undo_all_and_redo_all(self):
        for seed in range(60):
            source = random.Random(2000 + seed)
            store, model = Store(), Model(24)
            for _ in range(40):
                self.check_call(store, model, some_call(source, model))
            for method in ("undo", "redo", "undo"):
                for _ in range(sum(store.history()) + 1):
                    self.check_call(store, model, (method, (), {}))


if __name__ == "__main__":
    unittest.main()
