"""The interface of doubtwell/errors.py."""

import unittest

from doubtwell import errors

QUERY_ERRORS = [
    ("InvalidFraction", None, "fraction"),
    ("InvalidIntervals", None, "intervals"),
    ("InvalidName", None, "name"),
    ("DuplicateName", "name", "duplicate"),
    ("CapacityExceeded", None, "capacity"),
    ("InvalidBounds", None, "bounds"),
    ("InvalidPrice", "name", "price"),
    ("InvalidQuery", "index", "query"),
    ("InvalidText", "index", "text"),
    ("InvalidValue", "name", "value"),
    ("Uncertain", "index", "uncertain"),
    ("LimitExceeded", "count", "limit"),
    ("NoHistory", None, "history"),
]
NOT_FOUND = [
    ("UnknownItem", "name", "item"),
    ("MissingValue", "name", "missing"),
]
SAMPLES = {"name": "abc", "index": 5, "count": 3001}


class ErrorClasses(unittest.TestCase):
    def test_base_classes(self):
        self.assertEqual(errors.QueryError.__bases__, (ValueError,))
        self.assertEqual(errors.NotFound.__bases__, (LookupError,))

    def test_direct_subclasses(self):
        for base, rows in [(errors.QueryError, QUERY_ERRORS), (errors.NotFound, NOT_FOUND)]:
            for word, _, _ in rows:
                with self.subTest(word):
                    self.assertEqual(getattr(errors, word).__bases__, (base,))
            self.assertEqual({kind.__name__ for kind in base.__subclasses__()}, {word for word, _, _ in rows})

    def test_every_error_has_its_code(self):
        for word, attribute, code in QUERY_ERRORS + NOT_FOUND:
            with self.subTest(word):
                self.assertEqual(made(word, attribute).code, code)

    def test_codes_differ(self):
        codes = [code for _, _, code in QUERY_ERRORS + NOT_FOUND]
        self.assertEqual(len(set(codes)), 15)

    def test_attributes_by_position_and_by_keyword(self):
        for word, attribute, _ in QUERY_ERRORS + NOT_FOUND:
            if attribute is None:
                continue
            with self.subTest(word):
                sample = SAMPLES[attribute]
                kind = getattr(errors, word)
                self.assertEqual(getattr(kind(sample), attribute), sample)
                self.assertEqual(getattr(kind(**{attribute: sample}), attribute), sample)

    def test_no_other_attributes(self):
        for word, attribute, _ in QUERY_ERRORS + NOT_FOUND:
            with self.subTest(word):
                listed = {"code"} if attribute is None else {"code", attribute}
                self.assertEqual(set(vars(made(word, attribute))), listed)

    def test_attributes_belong_to_each_object(self):
        first, second = errors.InvalidValue("a"), errors.InvalidValue("b")
        self.assertEqual((first.name, second.name), ("a", "b"))

    def test_messages_are_not_empty(self):
        for word, attribute, _ in QUERY_ERRORS + NOT_FOUND:
            with self.subTest(word):
                self.assertNotEqual(str(made(word, attribute)), "")

    def test_caught_by_base_classes(self):
        for word, attribute, _ in QUERY_ERRORS:
            with self.assertRaises(ValueError):
                raise made(word, attribute)
        for word, attribute, _ in NOT_FOUND:
            with self.assertRaises(LookupError):
                raise made(word, attribute)

    def test_bases_have_the_attribute_code(self):
        self.assertTrue(hasattr(errors.QueryError(), "code"))
        self.assertTrue(hasattr(errors.NotFound(), "code"))


def made(word, attribute):
    kind = getattr(errors, word)
    return kind() if attribute is None else kind(SAMPLES[attribute])


if __name__ == "__main__":
    unittest.main()
