"""Point 27, and the interface of doubtwell/query_text.py."""

import inspect
import random
import unittest
from fractions import Fraction

from doubtwell import query_text as module
from doubtwell.errors import InvalidText
from doubtwell.query_text import format_queries, format_query, parse_queries

from helpers import ErrorCase

TEXTS = [
    ("sort a b c", ("sort", ("a", "b", "c"))),
    ("sort a", ("sort", ("a",))),
    ("min b a", ("min", ("b", "a"))),
    ("max a", ("max", ("a",))),
    ("max zzzzzz abcdef", ("max", ("zzzzzz", "abcdef"))),
    ("above 3/2 a b", ("above", ("a", "b"), (3, 2))),
    ("above 3 a", ("above", ("a",), (3, 1))),
    ("above 0 a", ("above", ("a",), (0, 1))),
    ("above -3/2 b a", ("above", ("b", "a"), (-3, 2))),
    ("above -7 a", ("above", ("a",), (-7, 1))),
    ("above 10/101 a", ("above", ("a",), (10, 101))),
    ("compare a b", ("compare", "a", "b")),
    ("compare bb a", ("compare", "bb", "a")),
    ("sort sort min max", ("sort", ("sort", "min", "max"))),
    ("compare above min", ("compare", "above", "min")),
]


class Format(ErrorCase):
    def test_examples(self):
        self.assertEqual(format_query(("above", ("a", "b"), (3, 2))), "above 3/2 a b")
        queries = [("min", ("a", "b")), ("compare", "a", "b")]
        self.assertEqual(format_queries(queries), "min a b; compare a b")

    def test_parameters(self):
        for function, parameters in [
            (format_query, "(query)"),
            (format_queries, "(queries)"),
            (parse_queries, "(text)"),
        ]:
            self.assertEqual(str(inspect.signature(function)), parameters)
            self.assertEqual(function.__module__, module.__name__)
        self.assertEqual(format_query(query=("min", ("a",))), "min a")
        self.assertEqual(format_queries(queries=[]), "")
        self.assertEqual(parse_queries(text="min a"), [("min", ("a",))])

    def test_each_kind(self):
        for text, query in TEXTS:
            self.assertEqual(format_query(query), text)
            self.assertEqual(format_queries([query]), text)

    def test_lists(self):
        self.assertEqual(format_queries([]), "")
        for start in range(len(TEXTS) - 7):
            chosen = TEXTS[start:start + 8]
            expected = "; ".join(text for text, _ in chosen)
            queries = [query for _, query in chosen]
            self.assertEqual(self.check_unchanged(format_queries, queries), expected)

    def test_great_numbers(self):
        self.assertEqual(format_query(("above", ("a",), (-(10 ** 39), 1))), "above -1" + "0" * 39 + " a")
        self.assertEqual(format_query(("above", ("a",), (1, 10 ** 39))), "above 1/1" + "0" * 39 + " a")


class Parse(ErrorCase):
    def check_invalid(self, text):
        """The query is invalid alone, and at each place of a list."""
        self.check_error(InvalidText(0), parse_queries, text)
        self.check_error(InvalidText(1), parse_queries, f"min a; {text}")
        self.check_error(InvalidText(0), parse_queries, f"{text}; min a")
        self.check_error(InvalidText(7), parse_queries, "min a; " * 7 + text)

    def test_examples(self):
        self.assertEqual(parse_queries("min a b; compare a b"), [("min", ("a", "b")), ("compare", "a", "b")])
        self.check_error(InvalidText(1), parse_queries, "min a; sort")

    def test_each_kind(self):
        for text, query in TEXTS:
            self.assertEqual(parse_queries(text), [query])

    def test_kinds_of_the_result(self):
        found = parse_queries("sort a b; above 1/2 a; compare a b")
        self.assertIs(type(found), list)
        self.assertEqual([type(query) for query in found], [tuple] * 3)
        self.assertEqual([type(part) for query in found for part in query], [str, tuple, str, tuple, tuple, str, str, str])
        self.assertEqual([type(part) for part in found[1][2]], [int, int])

    def test_no_queries(self):
        self.assertEqual(parse_queries(""), [])

    def test_round_trip(self):
        source = random.Random(271)
        letters = "abcdefghijklmnopqrstuvwxyz"
        for _ in range(500):
            queries = []
            for _ in range(source.randrange(9)):
                made = ["".join(source.choices(letters, k=source.randint(1, 6))) for _ in range(9)]
                names = tuple(dict.fromkeys(made))[:source.randint(2, 4)]
                kind = source.choice(["sort", "min", "max", "above", "compare"])
                exact = Fraction(source.randint(-10 ** 12 + 1, 10 ** 12 - 1), source.randint(1, 10 ** 12 - 1))
                if kind == "compare":
                    queries.append(("compare", *names[:2]))
                elif kind == "above":
                    queries.append(("above", names, (exact.numerator, exact.denominator)))
                else:
                    queries.append((kind, names))
            self.assertEqual(parse_queries(format_queries(queries)), queries)

    def test_spaces(self):
        for text in [
            " min a",
            "min a ",
            "min  a",
            "min a  b",
            " ",
            "  ",
            "above  1 a",
            "above 1  a",
            "compare a  b",
            "compare a b ",
            "min\ta",
            "min a\tb",
            "min a\n",
            "\nmin a",
            "min\u00a0a",
        ]:
            self.check_invalid(text)

    def test_empty_queries(self):
        self.check_error(InvalidText(0), parse_queries, "; ")
        self.check_error(InvalidText(0), parse_queries, "; min a")
        self.check_error(InvalidText(1), parse_queries, "min a; ")
        self.check_error(InvalidText(1), parse_queries, "min a; ; min b")
        self.check_error(InvalidText(2), parse_queries, "min a; min b; ")

    def test_separators(self):
        self.check_error(InvalidText(0), parse_queries, "min a;min b")
        self.check_error(InvalidText(0), parse_queries, "min a;")
        self.check_error(InvalidText(0), parse_queries, ";")
        self.check_error(InvalidText(0), parse_queries, "min a ; min b")
        self.check_error(InvalidText(1), parse_queries, "min a;  min b")
        self.check_error(InvalidText(0), parse_queries, "min a;; min b")
        self.check_error(InvalidText(0), parse_queries, "min a, min b")
        self.check_error(InvalidText(0), parse_queries, "min a\n; min b")

    def test_words(self):
        for text in ["sorts a", "Sort a", "a b", "a", "median a b", "MIN a", "minimum a", "3/2 a", "below 1 a", "min; a"]:
            self.check_error(InvalidText(0), parse_queries, text)

    def test_no_name(self):
        for text in ["sort", "min", "max", "compare", "above", "above 3/2", "above 3"]:
            self.check_invalid(text)

    def test_invalid_names(self):
        for name in ["A", "abcdefg", "a1", "1", "a_b", "a-b", "\u00e4", "a.", "3/2", "\u0430", "a,"]:
            for text in [f"sort {name}", f"min a {name}", f"max {name} a", f"above 1 {name}", f"compare {name} a"]:
                self.check_invalid(text)
            self.check_invalid(f"compare a {name}")

    def test_duplicate_names(self):
        for text in ["sort a a", "min a b a", "max b b", "above 1 a a", "above 1 a b a", "compare a a"]:
            self.check_invalid(text)

    def test_compare_has_two_names(self):
        for text in ["compare", "compare a", "compare a b c", "compare 1 a b", "compare a b 1"]:
            self.check_invalid(text)

    def test_items_do_not_have_to_exist(self):
        names = tuple("n" + first + second for first in "abcde" for second in "abcdef")
        self.assertEqual(parse_queries("sort " + " ".join(names)), [("sort", names)])

    def test_numbers_in_other_formats(self):
        for number in [
            "2/4", "6/3", "0/2", "0/1", "3/1", "-3/1", "-4/6", "10/5",
            "+3", "+3/2", "3/+2", "--3", "-+3", "+-3",
            "03", "00", "3/02", "-03", "03/2", "3/0", "0/0", "1/00",
            "-0", "-0/1", "-0/2", "3/-2", "-3/-2", "3/2/1", "3//2", "/2", "3/", "/", "-", "", "-/2",
            "1.5", "1e3", "0x1", "1_000", "3 /2", "3/ 2", "3\\2", "\u0663", "\u00b2", "1\u0663", "a", "3a", "a/b", "(3, 2)",
        ]:
            self.check_invalid(f"above {number} a")

    def test_digits(self):
        nines, more = "9" * 12, "1" + "0" * 12
        self.assertEqual(parse_queries(f"above {nines} a"), [("above", ("a",), (10 ** 12 - 1, 1))])
        self.assertEqual(parse_queries(f"above -{nines} a"), [("above", ("a",), (1 - 10 ** 12, 1))])
        self.assertEqual(parse_queries(f"above 1/{nines} a"), [("above", ("a",), (1, 10 ** 12 - 1))])
        self.assertEqual(parse_queries(f"above -1/{nines} a"), [("above", ("a",), (-1, 10 ** 12 - 1))])
        great = f"{nines}/" + "1" + "0" * 11
        self.assertEqual(parse_queries(f"above {great} a"), [("above", ("a",), (10 ** 12 - 1, 10 ** 11))])
        for number in [more, f"-{more}", f"1/{more}", f"{more}/{nines}", f"{nines}9", f"1/{nines}9", "0" * 13, "1" * 40]:
            self.check_invalid(f"above {number} a")

    def test_above_takes_its_number_first(self):
        for text in ["above a 1", "above a b 3/2", "above a", "above 1 2 a", "above 1 a 2", "min 1 a", "sort 3/2 a b"]:
            self.check_invalid(text)

    def test_the_ninth_query(self):
        for text in ("min a", "compare a b", "above -1/2 a"):
            self.assertEqual(len(parse_queries("; ".join([text] * 8))), 8)
            for count in (9, 10, 20):
                self.check_error(InvalidText(8), parse_queries, "; ".join([text] * count))
        self.check_error(InvalidText(8), parse_queries, "min a; " * 8 + "nothing")
        self.check_error(InvalidText(8), parse_queries, "min a; " * 8)
        self.check_error(InvalidText(3), parse_queries, "min a; " * 3 + "sort; " + "; ".join(["min a"] * 9))
        self.check_error(InvalidText(7), parse_queries, "min a; " * 7 + "sort; min a")

    def test_the_first_invalid_query(self):
        self.check_error(InvalidText(1), parse_queries, "min a; min A; max; sort")
        self.check_error(InvalidText(2), parse_queries, "min a; above 1 a; above 2/4 a; above -0 a")

    def test_a_new_list(self):
        found = parse_queries("min a")
        found.append("z")
        self.assertEqual(parse_queries("min a"), [("min", ("a",))])


if __name__ == "__main__":
    unittest.main()
