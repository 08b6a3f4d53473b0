"""Points 24, 25 and 26, and the interface of doubtwell/store.py, method by method."""

import copy
import inspect
import unittest

from doubtwell import store as module
from doubtwell.certificates import check_log
from doubtwell.errors import (
    CapacityExceeded,
    DuplicateName,
    InvalidBounds,
    InvalidFraction,
    InvalidName,
    InvalidPrice,
    InvalidQuery,
    InvalidValue,
    MissingValue,
    NoHistory,
    Uncertain,
    UnknownItem,
)
from doubtwell.store import Store

from helpers import NOT_FRACTIONS, ErrorCase, rows

COMPARE = [("compare", "a", "b")]
VALUES = {"a": (7, 1), "b": (12, 1)}
LOG = [("pair", "a", "b", 1, "a", (7, 1)), ("required", "b", 0, (12, 1))]
LETTERS = "abcdefghijklmnopqrstuvwxyz"
SIGNATURES = {
    "__init__": "(self, *, capacity=24)",
    "add_item": "(self, name, low, high, *, price=1)",
    "remove_item": "(self, name)",
    "set_interval": "(self, name, low, high)",
    "set_price": "(self, name, price)",
    "resolve": "(self, queries, values)",
    "resolve_all": "(self, batches, values)",
    "undo": "(self)",
    "redo": "(self)",
    "history": "(self)",
    "clone": "(self)",
    "intervals": "(self)",
    "prices": "(self)",
    "spent": "(self)",
    "log": "(self)",
    "answer": "(self, query)",
    "answers": "(self, queries)",
}


def seen(store):
    """All that can be seen of a store."""
    state = (store.intervals(), store.prices(), store.spent(), store.log())
    return (*state, store.history(), store.capacity, len(store), repr(store))


class StoreCase(ErrorCase):
    def two_items(self, **more):
        store = Store(**more)
        store.add_item("a", (0, 1), (10, 1))
        store.add_item("b", (5, 1), (15, 1))
        return store

    def check_fails(self, expected, store, method, *arguments, **more):
        """The call raises the error and changes nothing, neither the state nor what can be undone and redone."""
        before, given = seen(store), copy.deepcopy((arguments, more))
        self.check_error(expected, getattr(store, method), *arguments, **more)
        self.assertEqual(seen(store), before)
        self.assertEqual((arguments, more), given)


class Interface(StoreCase):
    def test_every_method_is_defined_in_the_class(self):
        for name, parameters in SIGNATURES.items():
            self.assertIn(name, vars(Store))
            self.assertEqual(str(inspect.signature(vars(Store)[name])), parameters)
        for name in ("__eq__", "__len__", "__repr__"):
            self.assertIn(name, vars(Store))
        self.assertEqual(Store.__module__, module.__name__)

    def test_keywords_only(self):
        with self.assertRaises(TypeError):
            Store(3)
        with self.assertRaises(TypeError):
            Store().add_item("a", (0, 1), (1, 1), 3)

    def test_keyword_arguments_in_any_order(self):
        store = Store()
        self.assertIsNone(store.add_item(price=4, high=(10, 1), low=(0, 1), name="a"))
        self.assertEqual(store.set_interval(high=(12, 1), low=(0, 1), name="a"), ((0, 1), (10, 1)))
        self.assertEqual(store.set_price(price=5, name="a"), 4)
        self.assertEqual(store.resolve(values={"a": (1, 1)}, queries=[("above", ("a",), (3, 1))]), [()])
        self.assertEqual(store.resolve_all(values={}, batches=[[]]), [[]])
        self.assertEqual(store.answer(query=("min", ("a",))), "a")
        self.assertEqual(store.answers(queries=[("min", ("a",))]), ["a"])
        self.assertEqual(store.remove_item(name="a"), ((1, 1), (1, 1)))

    def test_examples(self):
        store = Store(capacity=3)
        self.assertEqual([store.capacity, len(store), repr(store)], [3, 0, "Store(0 items, 0 known, spent 0)"])
        store = Store()
        store.add_item("a", (0, 1), (10, 1), price=4)
        self.assertEqual([store.intervals(), store.prices()], [rows(a=(0, 10)), {"a": 4}])
        answers = store.resolve([("above", ("a",), (5, 1))], {"a": (7, 1)})
        self.assertEqual([answers, store.spent(), store.log()], [[("a",)], 4, [("required", "a", 4, (7, 1))]])
        store = Store()
        store.add_item("a", (0, 1), (10, 1))
        answers = store.resolve_all([[("above", ("a",), (5, 1))], [("min", ("a",))]], {"a": (7, 1)})
        self.assertEqual([answers, store.history()], [[[("a",)], ["a"]], (2, 0)])
        store = Store()
        store.add_item("a", (0, 1), (10, 1))
        self.check_fails(Uncertain(1), store, "answers", [("min", ("a",)), ("above", ("a",), (5, 1))])
        store.undo()
        self.assertEqual([store.intervals(), store.history()], [[], (0, 1)])
        other = store.clone()
        other.add_item("a", (0, 1), (10, 1))
        self.assertEqual([len(store), len(other), store == other], [0, 1, False])


class Capacity(StoreCase):
    def test_capacities(self):
        self.assertEqual(Store().capacity, 24)
        for capacity in range(25):
            self.assertEqual(Store(capacity=capacity).capacity, capacity)
        for capacity in (-1, 25, 26, 10 ** 39, -(10 ** 39)):
            self.check_error(CapacityExceeded(), Store, capacity=capacity)

    def test_full_stores(self):
        for capacity in (0, 1, 3, 24):
            store = Store(capacity=capacity)
            for letter in LETTERS[:capacity]:
                store.add_item(letter, (0, 1), (1, 1))
            self.assertEqual(len(store), capacity)
            self.check_fails(CapacityExceeded(), store, "add_item", "z", (0, 1), (1, 1))
            if capacity:
                store.remove_item("a")
                store.add_item("z", (0, 1), (1, 1))
                self.check_fails(CapacityExceeded(), store, "add_item", "a", (0, 1), (1, 1))


class AddItem(StoreCase):
    def test_items_in_ascending_order(self):
        store = Store()
        for name in ("c", "a", "zzzzzz", "ab", "b"):
            self.assertIsNone(store.add_item(name, (-1, 2), (3, 1)))
        self.assertEqual(store.intervals(), [(x, (-1, 2), (3, 1)) for x in ("a", "ab", "b", "c", "zzzzzz")])
        self.assertEqual(store.prices(), {"a": 1, "ab": 1, "b": 1, "c": 1, "zzzzzz": 1})
        self.assertEqual(store.history(), (5, 0))

    def test_errors(self):
        store = self.two_items()
        for name in ("", "A", "abcdefg", "a1", "a b", "\u00e4"):
            self.check_fails(InvalidName(), store, "add_item", name, (0, 1), (1, 1))
        self.check_fails(DuplicateName("a"), store, "add_item", "a", (0, 1), (1, 1))
        for value in NOT_FRACTIONS:
            self.check_fails(InvalidFraction(), store, "add_item", "c", value, (10 ** 39, 1))
            self.check_fails(InvalidFraction(), store, "add_item", "c", (0, 1), value)
        for low, high in [((1, 1), (1, 1)), ((2, 1), (1, 1)), ((1, 2), (1, 3)), ((0, 1), (-1, 5))]:
            self.check_fails(InvalidBounds(), store, "add_item", "c", low, high)
        for price in (0, -1, 1001, 10 ** 39):
            self.check_fails(InvalidPrice("c"), store, "add_item", "c", (0, 1), (1, 1), price=price)
        for price in (1, 2, 1000):
            store.add_item("c", (0, 1), (1, 1), price=price)
            self.assertEqual(store.prices()["c"], price)
            store.remove_item("c")

    def test_order_of_the_errors(self):
        store = self.two_items(capacity=2)
        self.check_fails(InvalidName(), store, "add_item", "A", (2, 4), (2, 4), price=0)
        self.check_fails(DuplicateName("a"), store, "add_item", "a", (2, 4), (2, 4), price=0)
        self.check_fails(CapacityExceeded(), store, "add_item", "c", (2, 4), (2, 4), price=0)
        store = self.two_items()
        self.check_fails(InvalidFraction(), store, "add_item", "c", (2, 4), (0, 1), price=0)
        self.check_fails(InvalidFraction(), store, "add_item", "c", (5, 1), (2, 4), price=0)
        self.check_fails(InvalidBounds(), store, "add_item", "c", (1, 1), (0, 1), price=0)
        self.check_fails(InvalidPrice("c"), store, "add_item", "c", (0, 1), (1, 1), price=0)


class ChangeItems(StoreCase):
    def test_remove_item(self):
        store = self.two_items()
        store.set_price("b", 9)
        self.assertEqual(store.remove_item("b"), ((5, 1), (15, 1)))
        self.assertEqual((store.intervals(), store.prices()), (rows(a=(0, 10)), {"a": 1}))
        self.check_fails(UnknownItem("b"), store, "remove_item", "b")
        for name in ("", "A", "nosuch", "abcdefgh"):
            self.check_fails(UnknownItem(name), store, "remove_item", name)
        store.add_item("b", (0, 1), (1, 1))
        self.assertEqual(store.prices()["b"], 1)

    def test_remove_a_known_item(self):
        store = self.two_items()
        store.resolve(COMPARE, VALUES)
        removed = store.remove_item("a")
        self.assertEqual(removed, ((7, 1), (7, 1)))
        self.assertIs(type(removed), tuple)
        self.assertEqual((store.spent(), store.log()), (2, LOG))

    def test_set_interval(self):
        store = self.two_items()
        store.set_price("a", 7)
        previous = store.set_interval("a", (2, 1), (3, 1))
        self.assertEqual(previous, ((0, 1), (10, 1)))
        self.assertIs(type(previous), tuple)
        self.assertEqual((store.intervals(), store.prices()), (rows(a=(2, 3), b=(5, 15)), {"a": 7, "b": 1}))
        self.check_fails(UnknownItem("c"), store, "set_interval", "c", (2, 4), (2, 4))
        for value in NOT_FRACTIONS:
            self.check_fails(InvalidFraction(), store, "set_interval", "a", value, (-(10 ** 39), 1))
            self.check_fails(InvalidFraction(), store, "set_interval", "a", (0, 1), value)
        for low, high in [((1, 1), (1, 1)), ((2, 1), (1, 1)), ((-1, 3), (-1, 2))]:
            self.check_fails(InvalidBounds(), store, "set_interval", "a", low, high)

    def test_set_the_interval_of_a_known_item(self):
        store = self.two_items()
        store.resolve(COMPARE, VALUES)
        self.assertEqual(store.set_interval("a", (0, 1), (20, 1)), ((7, 1), (7, 1)))
        self.assertEqual(store.intervals(), rows(a=(0, 20), b=12))
        self.assertEqual((store.spent(), store.log()), (2, LOG))
        self.check_fails(Uncertain(0), store, "answer", COMPARE[0])

    def test_set_price(self):
        store = self.two_items()
        self.assertEqual(store.set_price("a", 7), 1)
        self.assertEqual(store.set_price("a", 1000), 7)
        self.assertEqual((store.prices(), store.intervals()), ({"a": 1000, "b": 1}, rows(a=(0, 10), b=(5, 15))))
        for price in (0, -1, 1001, 10 ** 39):
            self.check_fails(InvalidPrice("a"), store, "set_price", "a", price)
            self.check_fails(UnknownItem("c"), store, "set_price", "c", price)

    def test_the_price_of_a_known_item(self):
        store = self.two_items()
        store.resolve(COMPARE, VALUES)
        self.assertEqual(store.set_price("a", 9), 1)
        self.assertEqual((store.intervals(), store.spent()), (rows(a=7, b=12), 2))

    def test_steps_that_change_nothing(self):
        store = self.two_items()
        store.set_price("a", 1)
        store.set_interval("a", (0, 1), (10, 1))
        store.resolve([], {})
        self.assertEqual(store.history(), (5, 0))


class Resolve(StoreCase):
    def test_answers_and_state(self):
        store = self.two_items()
        self.assertEqual(store.resolve(COMPARE + [("max", ("a", "b"))], VALUES), ["a", "b"])
        self.assertEqual((store.intervals(), store.spent(), store.log()), (rows(a=7, b=12), 2, LOG))
        self.assertEqual(store.history(), (3, 0))
        self.assertEqual(repr(store), "Store(2 items, 2 known, spent 2)")
        self.assertIsNone(check_log(rows(a=(0, 10), b=(5, 15)), COMPARE, store.log(), prices=store.prices()))

    def test_prices_of_the_store(self):
        store = self.two_items()
        store.set_price("a", 4)
        self.assertEqual(store.resolve(COMPARE, VALUES), ["a"])
        self.assertEqual((store.log(), store.spent()), ([("pair", "a", "b", 1, "b", (12, 1))], 1))

    def test_the_price_at_the_time_of_the_probe(self):
        store = self.two_items()
        store.set_price("a", 30)
        above = [("above", ("a",), (5, 1))]
        store.resolve(above, VALUES)
        store.set_price("a", 500)
        self.assertEqual(store.spent(), 30)
        store.set_interval("a", (0, 1), (10, 1))
        store.resolve(above, VALUES)
        self.assertEqual((store.spent(), store.log()), (530, [("required", "a", 500, (7, 1))]))
        store.remove_item("a")
        self.assertEqual((store.spent(), store.log()), (530, [("required", "a", 500, (7, 1))]))

    def test_nothing_to_probe(self):
        store = self.two_items()
        store.resolve(COMPARE, VALUES)
        self.assertEqual(store.resolve(COMPARE, {}), ["a"])
        self.assertEqual((store.spent(), store.log(), store.history()), (2, [], (4, 0)))
        self.assertEqual(store.resolve([], {}), [])
        self.assertEqual(Store().resolve([], {}), [])

    def test_errors(self):
        store = self.two_items()
        self.check_fails(InvalidQuery(1), store, "resolve", COMPARE + [("min", ())], {})
        self.check_fails(InvalidQuery(0), store, "resolve", [("min", ("c",))], {})
        self.check_fails(InvalidQuery(8), store, "resolve", COMPARE * 9, {})
        self.check_fails(InvalidFraction(), store, "resolve", [("above", ("a",), (2, 4))], {})
        self.check_fails(MissingValue("a"), store, "resolve", COMPARE, {})
        self.check_fails(MissingValue("b"), store, "resolve", COMPARE, {"a": (7, 1)})
        self.check_fails(InvalidFraction(), store, "resolve", COMPARE, {"a": (2, 4), "b": (99, 1)})
        self.check_fails(InvalidValue("a"), store, "resolve", COMPARE, {"a": (10, 1), "b": (2, 4)})
        self.check_fails(InvalidValue("b"), store, "resolve", COMPARE, {"a": (7, 1), "b": (5, 1)})

    def test_only_probed_values_are_read(self):
        store = self.two_items()
        self.assertEqual(store.resolve(COMPARE, {"a": (3, 1), "b": (2, 4), "z": (1, 0)}), ["a"])
        self.assertEqual(store.intervals(), rows(a=3, b=(5, 15)))


class ResolveAll(StoreCase):
    def test_one_step(self):
        store = self.two_items()
        batches = [[("above", ("a",), (5, 1))], COMPARE, [("min", ("a", "b")), ("sort", ("b", "a"))]]
        self.assertEqual(store.resolve_all(batches, VALUES), [[("a",)], ["a"], ["a", ("a", "b")]])
        self.assertEqual((store.intervals(), store.spent(), store.log()), (rows(a=7, b=12), 2, []))
        self.assertEqual(store.history(), (3, 0))
        store.undo()
        self.assertEqual((store.intervals(), store.spent(), store.log()), (rows(a=(0, 10), b=(5, 15)), 0, []))
        store.redo()
        self.assertEqual((store.intervals(), store.spent(), store.log()), (rows(a=7, b=12), 2, []))

    def test_the_log_of_the_last_batch(self):
        store = self.two_items()
        store.resolve_all([[("above", ("b",), (6, 1))], [("above", ("a",), (5, 1))]], VALUES)
        self.assertEqual((store.log(), store.spent()), ([("required", "a", 1, (7, 1))], 2))

    def test_no_batches(self):
        store = self.two_items()
        store.resolve(COMPARE, VALUES)
        store.undo()
        before = seen(store)
        found = store.resolve_all([], {})
        self.assertEqual((found, type(found)), ([], list))
        self.assertEqual(seen(store), before)
        store.redo()
        self.assertEqual(store.log(), LOG)

    def test_empty_batches(self):
        store = self.two_items()
        store.resolve(COMPARE, VALUES)
        self.assertEqual(store.resolve_all([[], []], {}), [[], []])
        self.assertEqual((store.history(), store.log(), store.spent()), ((4, 0), [], 2))

    def test_errors(self):
        store = self.two_items()
        store.resolve([("above", ("b",), (6, 1))], VALUES)
        store.set_price("a", 3)
        store.undo()
        fine = [("above", ("a",), (5, 1))]
        for batches, values, expected in [
            ([fine, [("min", ())]], VALUES, InvalidQuery(0)),
            ([fine, fine + [("min", ("c",))]], VALUES, InvalidQuery(1)),
            ([fine, fine * 9], VALUES, InvalidQuery(8)),
            ([fine, [("above", ("a",), (2, 4))]], VALUES, InvalidFraction()),
            ([COMPARE, fine], {"b": (12, 1)}, MissingValue("a")),
            ([[], fine], {"a": (10, 1)}, InvalidValue("a")),
            ([[], fine], {"a": (2, 4)}, InvalidFraction()),
        ]:
            self.check_fails(expected, store, "resolve_all", batches, values)

    def test_a_batch_is_checked_after_the_previous_one_was_resolved(self):
        store = self.two_items()
        fine = [("above", ("a",), (5, 1))]
        self.check_fails(MissingValue("a"), store, "resolve_all", [fine, [("min", ())]], {})
        self.check_fails(InvalidValue("a"), store, "resolve_all", [fine, fine * 9], {"a": (10, 1)})
        self.check_fails(InvalidQuery(0), store, "resolve_all", [[("min", ())], fine], {})

    def test_later_batches_use_earlier_probes(self):
        store = self.two_items()
        store.set_price("a", 5)
        batches = [[("above", ("a",), (5, 1))], COMPARE]
        self.assertEqual(store.resolve_all(batches, VALUES), [[("a",)], ["a"]])
        self.assertEqual((store.spent(), store.log()), (6, [("required", "b", 1, (12, 1))]))


class History(StoreCase):
    def test_no_history(self):
        store = Store()
        self.check_fails(NoHistory(), store, "undo")
        self.check_fails(NoHistory(), store, "redo")
        store.add_item("a", (0, 1), (1, 1))
        self.check_fails(NoHistory(), store, "redo")
        self.assertIsNone(store.undo())
        self.check_fails(NoHistory(), store, "undo")
        self.assertIsNone(store.redo())
        self.check_fails(NoHistory(), store, "redo")

    def test_every_kind_of_step(self):
        store = Store()
        states = [seen(store)[:4]]
        for method, arguments in [
            ("add_item", ("a", (0, 1), (10, 1))),
            ("add_item", ("b", (5, 1), (15, 1))),
            ("set_price", ("a", 4)),
            ("resolve", (COMPARE, VALUES)),
            ("set_interval", ("b", (8, 1), (9, 1))),
            ("resolve_all", ([COMPARE, [("above", ("a",), (5, 1))]], {"a": (7, 1), "b": (17, 2)})),
            ("remove_item", ("a",)),
            ("resolve", ([], {})),
        ]:
            getattr(store, method)(*arguments)
            states.append(seen(store)[:4])
            self.assertEqual(store.history(), (len(states) - 1, 0))
        for at in range(len(states) - 2, -1, -1):
            self.assertIsNone(store.undo())
            self.assertEqual(seen(store)[:4], states[at])
            self.assertEqual(store.history(), (at, len(states) - 1 - at))
        for at in range(1, len(states)):
            self.assertIsNone(store.redo())
            self.assertEqual(seen(store)[:4], states[at])
            self.assertEqual(store.history(), (at, len(states) - 1 - at))

    def test_a_new_step_clears_what_could_be_redone(self):
        for method, arguments in [
            ("add_item", ("c", (0, 1), (10, 1))),
            ("remove_item", ("a",)),
            ("set_interval", ("a", (0, 1), (10, 1))),
            ("set_price", ("a", 1)),
            ("resolve", ([], {})),
            ("resolve_all", ([[]], {})),
        ]:
            store = self.two_items()
            store.set_price("a", 5)
            store.set_price("b", 6)
            store.undo()
            store.undo()
            self.assertEqual(store.history(), (2, 2))
            getattr(store, method)(*arguments)
            self.assertEqual(store.history(), (3, 0))
            self.check_fails(NoHistory(), store, "redo")

    def test_undone_probes_are_not_spent(self):
        store = self.two_items()
        store.resolve([("above", ("a",), (5, 1))], VALUES)
        store.resolve([("above", ("b",), (6, 1))], VALUES)
        self.assertEqual(store.spent(), 2)
        store.undo()
        self.assertEqual((store.spent(), store.log()), (1, [("required", "a", 1, (7, 1))]))
        self.assertEqual(store.intervals(), rows(a=7, b=(5, 15)))
        store.undo()
        self.assertEqual((store.spent(), store.log()), (0, []))
        store.redo()
        self.assertEqual((store.spent(), store.log()), (1, [("required", "a", 1, (7, 1))]))

    def test_other_values_after_an_undo(self):
        store = self.two_items()
        store.resolve(COMPARE, VALUES)
        store.undo()
        self.assertEqual(store.resolve(COMPARE, {"a": (9, 1), "b": (6, 1)}), ["b"])
        self.assertEqual(store.intervals(), rows(a=9, b=6))

    def test_the_capacity_does_not_keep_steps_from_being_redone(self):
        store = self.two_items(capacity=2)
        store.remove_item("a")
        store.add_item("c", (0, 1), (1, 1))
        store.undo()
        store.undo()
        self.assertEqual(len(store), 2)
        store.redo()
        store.redo()
        self.assertEqual(store.intervals(), rows(b=(5, 15), c=(0, 1)))


class Answers(StoreCase):
    def test_certain_answers(self):
        store = self.two_items()
        queries = [("min", ("a",)), ("above", ("b", "a"), (4, 1))]
        self.check_fails(Uncertain(1), store, "answers", queries)
        store.resolve(COMPARE, VALUES)
        self.assertEqual(store.answers(queries), ["a", ("a", "b")])
        self.assertEqual(store.answer(("sort", ("b", "a"))), ("a", "b"))
        self.assertEqual(store.answers([]), [])
        self.assertEqual(store.history(), (3, 0))

    def test_ties(self):
        store = Store()
        for name in "cab":
            store.add_item(name, (0, 1), (2, 1))
        names = ("c", "b", "a")
        store.resolve([("sort", names)], {name: (1, 1) for name in names})
        self.assertEqual(store.answers([("sort", names), ("min", names), ("max", names)]), [("a", "b", "c"), "a", "a"])
        self.assertEqual(store.answer(("compare", "c", "b")), "b")

    def test_the_first_query_that_is_not_certain(self):
        store = self.two_items()
        certain = ("min", ("a",))
        for index in range(8):
            queries = [certain] * index + COMPARE * (8 - index)
            self.check_fails(Uncertain(index), store, "answers", queries)
        for query in COMPARE + [("min", ("b", "a")), ("max", ("b", "a")), ("above", ("a",), (5, 1))]:
            self.check_fails(Uncertain(0), store, "answer", query)

    def test_malformed_queries(self):
        store = self.two_items()
        for query in [("min", ()), ("min", ("c",)), ("median", ("a",)), ("compare", "a", "a"), ("sort", ("a",), (1, 1)), ()]:
            self.check_fails(InvalidQuery(0), store, "answer", query)
            self.check_fails(InvalidQuery(1), store, "answers", COMPARE + [query])
        self.check_fails(InvalidFraction(), store, "answer", ("above", ("a",), (2, 4)))
        self.check_fails(InvalidFraction(), store, "answers", COMPARE + [("above", ("a",), (2, 4))])
        self.check_fails(InvalidQuery(8), store, "answers", COMPARE * 9)
        self.check_fails(InvalidQuery(0), Store(), "answer", ("min", ("a",)))


class Equality(StoreCase):
    def test_intervals_and_prices_count(self):
        first, second = self.two_items(), Store(capacity=2)
        second.add_item("b", (0, 1), (1, 1))
        self.assertFalse(first == second)
        self.assertTrue(first != second)
        second.set_interval("b", (5, 1), (15, 1))
        second.add_item("a", (0, 1), (10, 1), price=3)
        self.assertFalse(first == second)
        second.set_price("a", 1)
        self.assertTrue(first == second)
        self.assertFalse(first != second)
        self.assertIs(type(first == second), bool)

    def test_history_spent_price_and_log_do_not_count(self):
        first, second = self.two_items(), self.two_items()
        first.resolve(COMPARE, VALUES)
        self.assertFalse(first == second)
        for name, low, high in second.intervals():
            first.set_interval(name, low, high)
        self.assertNotEqual(first.spent(), second.spent())
        self.assertTrue(first == second)
        self.assertTrue(Store(capacity=0) == Store())

    def test_other_objects(self):
        store = self.two_items()
        for other in (None, 5, "store", store.intervals(), (store.intervals(), store.prices()), object(), Store, rows()):
            self.assertFalse(store == other)
            self.assertTrue(store != other)
            self.assertFalse(other == store)
        self.assertTrue(store == store)

    def test_length_and_representation(self):
        store = Store()
        self.assertEqual((len(store), repr(store)), (0, "Store(0 items, 0 known, spent 0)"))
        store.add_item("a", (0, 1), (10, 1), price=7)
        self.assertEqual((len(store), repr(store)), (1, "Store(1 items, 0 known, spent 0)"))
        for name in "bcde":
            store.add_item(name, (5, 1), (15, 1))
        store.resolve([("above", ("a",), (5, 1))], VALUES)
        self.assertEqual((len(store), repr(store)), (5, "Store(5 items, 1 known, spent 7)"))
        store.resolve([("above", ("b",), (6, 1))], VALUES)
        store.remove_item("a")
        self.assertEqual((len(store), repr(store)), (4, "Store(4 items, 1 known, spent 8)"))


class Clones(StoreCase):
    def test_state_and_history(self):
        store = self.two_items(capacity=5)
        store.resolve(COMPARE, VALUES)
        store.set_price("a", 9)
        store.undo()
        other = store.clone()
        self.assertIs(type(other), Store)
        self.assertIsNot(other, store)
        self.assertEqual(seen(other), seen(store))
        self.assertEqual(other.capacity, 5)
        self.assertTrue(other == store)
        other.redo()
        self.assertEqual((other.prices()["a"], store.prices()["a"]), (9, 1))
        for _ in range(4):
            other.undo()
        self.assertEqual((len(other), len(store)), (0, 2))

    def test_changed_one_after_the_other(self):
        store = self.two_items()
        other = store.clone()
        store.add_item("c", (0, 1), (1, 1))
        other.remove_item("a")
        self.assertEqual(store.intervals(), rows(a=(0, 10), b=(5, 15), c=(0, 1)))
        self.assertEqual(other.intervals(), rows(b=(5, 15)))
        third = other.clone()
        third.undo()
        self.assertEqual((other.history(), third.history(), store.history()), ((3, 0), (2, 1), (3, 0)))
        store.undo()
        self.assertTrue(store == third)
        store.resolve(COMPARE, VALUES)
        self.assertEqual((third.spent(), third.log(), store.spent()), (0, [], 2))
        third.redo()
        self.assertTrue(third == other)


class Copies(StoreCase):
    """Point 2: later changes of arguments and of returned objects have no effect."""

    def test_returned_objects(self):
        store = self.two_items()
        answers = store.resolve(COMPARE, VALUES)
        lists = store.resolve_all([COMPARE, []], VALUES)
        store.undo()
        before = seen(store)
        for found in (answers, store.intervals(), store.log(), store.answers(COMPARE), lists[0], lists):
            found.append("z")
        for found in (store.intervals(), store.log(), store.prices()):
            found.clear()
        store.prices().update(a=0, z=5)
        self.assertEqual(seen(store), before)
        store.redo()
        store.undo()
        self.assertEqual(seen(store), before)

    def test_every_call_returns_a_new_object(self):
        store = self.two_items()
        store.resolve(COMPARE, VALUES)
        for method in (store.intervals, store.log, store.prices):
            self.assertIsNot(method(), method())
            self.assertEqual(method(), method())

    def test_arguments(self):
        store = self.two_items()
        queries, values = list(COMPARE), dict(VALUES)
        store.resolve(queries, values)
        before = seen(store)
        queries.append(("min", ()))
        values["a"] = (1, 1)
        self.assertEqual(seen(store), before)
        batches = [list(COMPARE), []]
        store.resolve_all(batches, values)
        self.assertEqual(batches, [COMPARE, []])
        self.assertEqual(values, {"a": (1, 1), "b": (12, 1)})
        before = seen(store)
        batches[0].clear()
        values.clear()
        self.assertEqual(seen(store), before)


if __name__ == "__main__":
    unittest.main()
