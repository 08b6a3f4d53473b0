"""Point 20, and `proven_bound` in the interface of doubtwell/optimum.py."""

import inspect
import random
import unittest

from doubtwell import optimum as module
from doubtwell.errors import (
    InvalidFraction,
    InvalidIntervals,
    InvalidPrice,
    InvalidQuery,
    InvalidValue,
    MissingValue,
    UnknownItem,
)
from doubtwell.optimum import cheapest, proven_bound

from helpers import (
    NOT_FRACTIONS,
    ErrorCase,
    cheapest_price,
    names_of,
    price_of,
    query_names,
    rows,
    rule_bound,
    some_single_case,
    whole,
)

TWO = rows(a=(0, 10), b=(5, 15))
COMPARE = ("compare", "a", "b")
VALUES = {"a": (7, 1), "b": (12, 1)}

# No item of the chain contains the value of another one, but d contains the value of e.
CHAIN = rows(a=(0, 4), b=(2, 6), c=(5, 9), d=(20, 30), e=25, f=(40, 50))
SORT = ("sort", ("e", "d", "c", "b", "a"))
POINTS = {"a": (1, 1), "b": (4, 1), "c": (7, 1), "d": (22, 1), "e": (25, 1)}
FORCED = [("d", "e")]
CHARGES = [("a", 1), ("c", 1)]


class BoundCase(ErrorCase):
    def check_bound(self, expected, forced, charges, query=SORT, prices=None):
        found = proven_bound(CHAIN, query, POINTS, ("sweep", forced, charges), prices=prices)
        self.assertEqual(found, expected)


class Interface(BoundCase):
    def test_example(self):
        self.assertEqual(proven_bound(TWO, COMPARE, VALUES, ("sweep", [("b", "a")], [("a", 1)])), 1)

    def test_parameters(self):
        parameters = "(intervals, query, values, certificate, *, prices=None)"
        self.assertEqual(str(inspect.signature(proven_bound)), parameters)
        self.assertEqual(proven_bound.__module__, module.__name__)
        certificate = ("sweep", [("b", "a")], [("a", 3)])
        arguments = {"certificate": certificate, "values": VALUES, "query": COMPARE, "intervals": TWO}
        self.assertEqual(proven_bound(prices={"a": 3}, **arguments), 1)
        with self.assertRaises(TypeError):
            proven_bound(TWO, COMPARE, VALUES, certificate, {"a": 3})

    def test_kinds_of_the_result(self):
        self.assertIs(type(proven_bound(TWO, COMPARE, VALUES, ("sweep", [("b", "a")], [("a", 1)]))), int)
        self.assertIsNone(proven_bound(TWO, COMPARE, VALUES, ("sweep", [], [])))


class SweepCertificates(BoundCase):
    def test_valid(self):
        self.assertEqual(cheapest(CHAIN, SORT, POINTS)[2], ("sweep", FORCED, CHARGES))
        self.check_bound(2, FORCED, CHARGES)
        self.check_bound(2, FORCED, CHARGES[::-1])

    def test_form(self):
        for certificate in [
            ("sweep",),
            ("sweep", FORCED),
            ("sweep", FORCED, CHARGES, []),
            ("Sweep", FORCED, CHARGES),
            ("", FORCED, CHARGES),
            ("options", FORCED, CHARGES),
            ("options", [(None, 2)]),
            ("threshold", ["a"]),
            ("sort", FORCED, CHARGES),
        ]:
            self.assertIsNone(proven_bound(CHAIN, SORT, POINTS, certificate))

    def test_forced_names_are_distinct(self):
        self.check_bound(None, FORCED + FORCED, CHARGES)

    def test_forced_names_are_unknown_items_of_the_query(self):
        for name in ("e", "f", "x", ""):
            self.check_bound(None, FORCED + [(name, "d")], CHARGES)
            self.check_bound(None, [(name, "e")] + FORCED, CHARGES)
        # Without e in the query, d has nothing inside.
        self.check_bound(None, FORCED, CHARGES, ("sort", ("a", "b", "c", "d")))

    def test_other_names_are_other_items_of_the_query(self):
        for other in ("d", "x", "", "f"):
            self.check_bound(None, [("d", other)], CHARGES)

    def test_other_values_lie_strictly_between_the_bounds(self):
        for name, other in [("a", "b"), ("c", "b"), ("b", "c"), ("b", "a"), ("d", "a")]:
            self.check_bound(None, FORCED + [(name, other)] if name != "d" else [(name, other)], CHARGES)
        # The value 4 of b is the upper bound of a, and 5 is the lower bound of c.
        values = {**POINTS, "b": (5, 1)}
        certificate = ("sweep", FORCED + [("c", "b")], CHARGES)
        self.assertIsNone(proven_bound(CHAIN, SORT, values, certificate))
        values = {**POINTS, "b": (11, 2)}
        self.assertEqual(proven_bound(CHAIN, SORT, values, certificate), 2)

    def test_any_other_name_will_do(self):
        intervals = rows(a=(0, 10), b=3, c=4)
        values = {"a": (8, 1), "b": (3, 1), "c": (4, 1)}
        for other in ("b", "c"):
            certificate = ("sweep", [("a", other)], [])
            self.assertEqual(proven_bound(intervals, ("sort", ("a", "b", "c")), values, certificate), 1)

    def test_forced_in_any_order(self):
        values = {"a": (7, 1), "b": (8, 1)}
        for forced in ([("a", "b"), ("b", "a")], [("b", "a"), ("a", "b")]):
            self.assertEqual(proven_bound(TWO, COMPARE, values, ("sweep", forced, [])), 2)

    def test_forced_items_may_be_charged_instead(self):
        self.check_bound(1, [], CHARGES + [("d", 1)])
        self.check_bound(None, [], CHARGES)

    def test_charged_names_are_distinct(self):
        self.check_bound(None, FORCED, CHARGES + [("a", 1)])
        self.check_bound(None, FORCED, [("a", 1), ("a", 1), ("c", 1)])
        self.check_bound(None, FORCED, CHARGES + [("c", 0)])

    def test_charged_names_are_unknown_items_of_the_query(self):
        for name in ("e", "f", "x", ""):
            for amount in (0, 1):
                self.check_bound(None, FORCED, CHARGES + [(name, amount)])

    def test_amounts_are_not_negative(self):
        self.check_bound(2, FORCED, CHARGES + [("b", 0)])
        self.check_bound(None, FORCED, CHARGES + [("b", -1)])
        self.check_bound(None, FORCED, CHARGES + [("d", -1)])
        self.check_bound(None, FORCED, [("a", 5), ("b", -1), ("c", 5)])

    def test_charges_pay_for_the_optional_items(self):
        self.check_bound(None, FORCED, [("a", 1)])
        self.check_bound(None, FORCED, [("c", 1)])
        self.check_bound(None, FORCED, [("a", 1), ("c", 0)])
        self.check_bound(None, FORCED, [])
        # The end point of b is covered by b and c, that of a by a and b, that of c by c alone.
        self.check_bound(2, FORCED, [("a", 1), ("b", 1)])
        self.check_bound(None, FORCED, [("b", 1), ("c", 1)])
        self.check_bound(None, FORCED, [("b", 3)])

    def test_charges_above_the_prices(self):
        self.check_bound(1, FORCED, [("a", 2), ("c", 1)])
        self.check_bound(1, FORCED, CHARGES + [("b", 1)])
        self.check_bound(1, FORCED, CHARGES + [("d", 1)])
        self.check_bound(-96, FORCED, [("a", 99), ("c", 1)])
        self.check_bound(4 - 1000 - 10 ** 39, FORCED, [("a", 1000), ("c", 10 ** 39)])

    def test_prices(self):
        prices = {"a": 3, "b": 5, "d": 10, "f": 1000}
        self.check_bound(None, FORCED, CHARGES, prices=prices)
        self.check_bound(14, FORCED, [("a", 3), ("b", 2)], prices=prices)
        self.check_bound(13, FORCED, [("a", 5), ("c", 1)], prices=prices)
        self.check_bound(None, FORCED, [("a", 4), ("c", 1)], prices=prices)
        self.assertEqual(cheapest_price(CHAIN, [SORT], {**POINTS, "f": (41, 1)}, prices), 14)

    def test_touching_bounds(self):
        intervals = rows(a=(0, 5), b=(5, 9))
        values = {"a": (3, 1), "b": (6, 1)}
        for charges, bound in [([("a", 1), ("b", 1)], 0), ([("a", 1)], None), ([("b", 1)], None), ([("b", 2)], None)]:
            self.assertEqual(proven_bound(intervals, COMPARE, values, ("sweep", [], charges)), bound)

    def test_equal_upper_bounds(self):
        intervals = rows(a=(0, 6), b=(3, 6))
        values = {"a": (2, 1), "b": (4, 1)}
        for name in ("a", "b"):
            self.assertEqual(proven_bound(intervals, COMPARE, values, ("sweep", [], [(name, 1)])), 1)
        self.assertEqual(proven_bound(intervals, COMPARE, values, ("sweep", [("a", "b")], [("a", 1)])), 1)

    def test_known_items_only(self):
        intervals = rows(a=3, b=3)
        values = {"a": (3, 1), "b": (3, 1)}
        self.assertEqual(proven_bound(intervals, COMPARE, values, ("sweep", [], [])), 0)
        self.assertIsNone(proven_bound(intervals, COMPARE, values, ("sweep", [("a", "b")], [])))
        self.assertIsNone(proven_bound(intervals, COMPARE, values, ("sweep", [], [("a", 0)])))


class OtherCertificates(BoundCase):
    def test_thresholds(self):
        query = ("above", ("b", "a"), (8, 1))
        self.assertEqual(proven_bound(TWO, query, VALUES, ("threshold", ["a", "b"]), prices={"b": 6}), 7)
        for certificate in [
            ("threshold", ["b", "a"]),
            ("threshold", ["a"]),
            ("threshold", ["a", "b", "b"]),
            ("threshold", []),
            ("threshold",),
            ("threshold", ["a", "b"], []),
            ("thresholds", ["a", "b"]),
            ("sweep", [], []),
            ("sweep", [], [("a", 1), ("b", 1)]),
            ("options", [(None, 2)]),
        ]:
            self.assertIsNone(proven_bound(TWO, query, VALUES, certificate))

    def test_options(self):
        for kind, values in [("min", VALUES), ("max", {"a": (3, 1), "b": (8, 1)})]:
            query = (kind, ("a", "b"))
            keep = "a" if kind == "min" else "b"
            self.assertEqual(proven_bound(TWO, query, values, ("options", [(None, 2), (keep, 1)])), 1)
            for certificate in [
                ("options", [(keep, 1), (None, 2)]),
                ("options", [(None, 2)]),
                ("options", [(None, 2), (keep, 2)]),
                ("options", [(None, 1), (keep, 1)]),
                ("options", [(None, 2), ("c", 1)]),
                ("options", [(None, 2), (keep, 1), (keep, 1)]),
                ("options", []),
                ("options",),
                ("option", [(None, 2), (keep, 1)]),
                ("threshold", ["a"]),
                ("sweep", [("b", "a")], [("a", 1)]),
            ]:
                self.assertIsNone(proven_bound(TWO, query, values, certificate))


def changed_pairs(source, pairs, names):
    """A list of pairs with one pair dropped, repeated, moved, added or changed."""
    pairs = list(pairs)
    change = source.randrange(5)
    at = source.randrange(len(pairs) + 1)
    if change == 0 or at == len(pairs):
        pairs.insert(at, (source.choice(names), source.choice([*names, -1, 0, 1, 2, 5])))
    elif change == 1:
        del pairs[at]
    elif change == 2:
        pairs.append(pairs[at])
    elif change == 3:
        pairs[at] = (source.choice(names), pairs[at][1])
    else:
        pairs[at] = (pairs[at][0], source.choice(names))
    return pairs


def only(pairs, kind):
    """The pairs whose second part is of this kind."""
    return [pair for pair in pairs if isinstance(pair[1], kind)]


class Rules(BoundCase):
    def check_rules(self, intervals, query, values, certificate, prices):
        found = self.check_unchanged(proven_bound, intervals, query, values, certificate, prices=prices)
        self.assertEqual(found, rule_bound(intervals, query, values, certificate, prices))
        if found is not None:
            self.assertLessEqual(found, cheapest_price(intervals, [query], values, prices))
        return found

    def test_certificates_of_cheapest(self):
        source = random.Random(201)
        for _ in range(1500):
            intervals, query, values, prices = some_single_case(source)
            price, _, certificate = cheapest(intervals, query, values, prices=prices)
            self.assertEqual(self.check_rules(intervals, query, values, certificate, prices), price)

    def test_certificates_of_another_query(self):
        source = random.Random(202)
        for _ in range(1500):
            intervals, query, values, prices = some_single_case(source)
            names = names_of(intervals)
            other = (source.choice(["sort", "min", "max"]), tuple(source.sample(names, source.randint(1, len(names)))))
            certificate = cheapest(intervals, other, values, prices=prices)[2]
            self.check_rules(intervals, query, values, certificate, prices)

    def test_changed_sweep_certificates(self):
        source = random.Random(203)
        found = []
        while len(found) < 4000:
            intervals, query, values, prices = some_single_case(source)
            if query[0] not in ("sort", "compare"):
                continue
            names = [*names_of(intervals), "z"]
            word, forced, charges = cheapest(intervals, query, values, prices=prices)[2]
            for _ in range(source.choice([1, 1, 2])):
                if source.random() < 0.5:
                    forced = only(changed_pairs(source, forced, names), str)
                else:
                    charges = only(changed_pairs(source, charges, names), int)
            found.append(self.check_rules(intervals, query, values, (word, forced, charges), prices))
        self.assertGreater(found.count(None), 500)
        self.assertGreater(len(found) - found.count(None), 500)

    def test_any_forced_pairs_and_charges(self):
        source = random.Random(204)
        found = []
        while len(found) < 4000:
            intervals, query, values, prices = some_single_case(source)
            if query[0] not in ("sort", "compare"):
                continue
            asked = list(query_names(query))
            named = source.sample(asked, source.randint(0, len(asked)))
            forced = [(name, source.choice(asked)) for name in named if source.random() < 0.3]
            charges = []
            for name in source.sample(asked, source.randint(len(asked) // 2, len(asked))):
                charges.append((name, price_of(prices, name) * source.randint(0, 3)))
            found.append(self.check_rules(intervals, query, values, ("sweep", forced, charges), prices))
        self.assertGreater(found.count(None), 500)
        self.assertGreater(len(found) - found.count(None), 500)


class Errors(BoundCase):
    CERTIFICATES = [("sweep", [("b", "a")], [("a", 1)]), ("sweep", [], []), ("nothing",), ("options", [(None, 2)])]
    QUERIES = [COMPARE, ("sort", ("b", "a")), ("min", ("b", "a")), ("max", ("a", "b")), ("above", ("b", "a"), (99, 1))]

    def check_all(self, expected, values, intervals=TWO):
        for query in self.QUERIES:
            for certificate in self.CERTIFICATES:
                self.check_error(expected, proven_bound, intervals, query, values, certificate)

    def test_values(self):
        self.check_all(MissingValue("a"), {"b": (2, 4)})
        self.check_all(MissingValue("b"), {"a": (7, 1)})
        self.check_all(InvalidValue("a"), {"a": (10, 1), "b": (2, 4)})
        self.check_all(InvalidValue("b"), {"a": (7, 1), "b": (15, 1)})
        for value in NOT_FRACTIONS:
            self.check_all(InvalidFraction(), {"a": value, "b": (99, 1)})

    def test_known_items_are_read(self):
        intervals = rows(a=(0, 10), b=5)
        self.check_all(MissingValue("b"), {"a": (7, 1)}, intervals)
        self.check_all(InvalidValue("b"), {"a": (7, 1), "b": (6, 1)}, intervals)

    def test_other_items_are_not_read(self):
        intervals = rows(a=(0, 10), b=(5, 15), c=(0, 1), d=4)
        certificate = ("sweep", [("b", "a")], [("a", 1)])
        for more in ({}, {"c": (2, 4), "d": (5, 1)}, {"c": whole(9), "z": (1, 0)}):
            self.assertEqual(proven_bound(intervals, COMPARE, {**VALUES, **more}, certificate), 1)

    def test_order_of_the_checks(self):
        for certificate in self.CERTIFICATES:
            arguments = ({}, certificate)
            call = proven_bound
            self.check_error(InvalidIntervals(), call, rows(a=(1, 0)), ("sort", ()), *arguments, prices={"z": 0})
            self.check_error(InvalidQuery(0), call, TWO, ("sort", ()), *arguments, prices={"z": 0})
            self.check_error(UnknownItem("z"), call, TWO, COMPARE, *arguments, prices={"z": 0})
            self.check_error(InvalidPrice("a"), call, TWO, COMPARE, *arguments, prices={"z": 0, "a": 1001})


if __name__ == "__main__":
    unittest.main()
