"""Stores: items with bounds and prices that remember their probes, with undo and redo."""

from doubtwell.errors import CapacityExceeded, DuplicateName, InvalidBounds, InvalidName
from doubtwell.errors import NoHistory, Uncertain, UnknownItem
from doubtwell.intervals import CAPACITY, is_known, is_name, item_names, row_of
from doubtwell.logs import spent_price
from doubtwell.prices import check_price
from doubtwell.probing import run_strategy
from doubtwell.queries import certain, certain_answer, check_queries
from doubtwell.rationals import check_fraction, less


class State:
    """What a store holds at one time. A state is never changed, so that histories and clones can share it."""

    def __init__(self, rows, costs, paid, entries):
        self.rows = rows
        self.costs = costs
        self.paid = paid
        self.entries = entries


def known_count(rows):
    """Return the number of known items."""
    return len([row for row in rows if is_known(row)])


def check_bounds(low, high):
    """Raise the first error of the bounds of an unknown item, if there is one."""
    check_fraction(low)
    check_fraction(high)
    if not less(low, high):
        raise InvalidBounds("the lower bound is not less than the upper one")


def check_item(state, name):
    """Raise UnknownItem unless there is an item of this name."""
    if name not in state.costs:
        raise UnknownItem(name)


def with_item(state, row, price):
    """Return the state with an item added, or replaced if there is one of this name."""
    rows = [other for other in state.rows if other[0] != row[0]]
    return State(sorted(rows + [row]), {**state.costs, row[0]: price}, state.paid, state.entries)


def without_item(state, name):
    """Return the state with an item removed."""
    rows = [row for row in state.rows if row[0] != name]
    costs = {other: state.costs[other] for other in item_names(rows)}
    return State(rows, costs, state.paid, state.entries)


def resolved(state, queries, values):
    """Return the state after the strategy made the queries certain, and their answers."""
    check_queries(state.rows, queries)
    rows, log = run_strategy(state.rows, queries, values, state.costs)
    paid = state.paid + spent_price(log, state.costs)
    return (State(rows, state.costs, paid, log), [certain_answer(rows, query) for query in queries])


class Store:
    """Items with bounds and prices, and a history of steps."""

    def __init__(self, *, capacity=CAPACITY):
        if not 0 <= capacity <= CAPACITY:
            raise CapacityExceeded(f"the capacity is not from 0 to {CAPACITY}")
        self.capacity = capacity
        self.now = State([], {}, 0, [])
        self.past = []
        self.future = []

    def step_to(self, state):
        """Go on to a new state, as one step that can be undone."""
        self.past.append(self.now)
        self.future = []
        self.now = state

    def add_item(self, name, low, high, *, price=1):
        """Add an unknown item."""
        if not is_name(name):
            raise InvalidName(f"{name!r} is not an item name")
        if name in self.now.costs:
            raise DuplicateName(name)
        if len(self.now.rows) >= self.capacity:
            raise CapacityExceeded(f"there are already {self.capacity} items")
        check_bounds(low, high)
        check_price(name, price)
        self.step_to(with_item(self.now, (name, low, high), price))

    def remove_item(self, name):
        """Remove an item, and return its bounds."""
        check_item(self.now, name)
        row = row_of(self.now.rows, name)
        self.step_to(without_item(self.now, name))
        return row[1:]

    def set_interval(self, name, low, high):
        """Replace the bounds of an item, which becomes unknown, and return the previous ones."""
        check_item(self.now, name)
        check_bounds(low, high)
        row = row_of(self.now.rows, name)
        self.step_to(with_item(self.now, (name, low, high), self.now.costs[name]))
        return row[1:]

    def set_price(self, name, price):
        """Replace the price of an item, and return the previous one."""
        check_item(self.now, name)
        check_price(name, price)
        previous = self.now.costs[name]
        self.step_to(with_item(self.now, row_of(self.now.rows, name), price))
        return previous

    def resolve(self, queries, values):
        """Probe by the strategy until all queries are certain, and return their answers."""
        state, found = resolved(self.now, queries, values)
        self.step_to(state)
        return found

    def resolve_all(self, batches, values):
        """Resolve several lists of queries as one step, and return the lists of their answers."""
        state = self.now
        lists = []
        for queries in batches:
            state, found = resolved(state, queries, values)
            lists.append(found)
        if lists:
            self.step_to(state)
        return lists

    def undo(self):
        """Undo the last step."""
        if not self.past:
            raise NoHistory("there is no step to undo")
        self.future.append(self.now)
        self.now = self.past.pop()

    def redo(self):
        """Repeat the last undone step."""
        if not self.future:
            raise NoHistory("there is no step to redo")
        self.past.append(self.now)
        self.now = self.future.pop()

    def history(self):
        """Return the number of steps that can be undone, and of those that can be redone."""
        return (len(self.past), len(self.future))

    def clone(self):
        """Return an independent store with the same capacity, state and history."""
        other = Store(capacity=self.capacity)
        other.now = self.now
        other.past = list(self.past)
        other.future = list(self.future)
        return other

    def intervals(self):
        """Return the interval list."""
        return list(self.now.rows)

    def prices(self):
        """Return a dict with the price of every item."""
        return {name: self.now.costs[name] for name in item_names(self.now.rows)}

    def spent(self):
        """Return the total price of all probes that have not been undone."""
        return self.now.paid

    def log(self):
        """Return the log of the last resolve that has not been undone."""
        return list(self.now.entries)

    def answer(self, query):
        """Return the certain answer of a query."""
        return self.answers([query])[0]

    def answers(self, queries):
        """Return the list of the certain answers of several queries."""
        check_queries(self.now.rows, queries)
        for index, query in enumerate(queries):
            if not certain(self.now.rows, query):
                raise Uncertain(index)
        return [certain_answer(self.now.rows, query) for query in queries]

    def __eq__(self, other):
        if not isinstance(other, Store):
            return False
        return self.now.rows == other.now.rows and self.now.costs == other.now.costs

    def __len__(self):
        return len(self.now.rows)

    def __repr__(self):
        return f"Store({len(self.now.rows)} items, {known_count(self.now.rows)} known, spent {self.now.paid})"
