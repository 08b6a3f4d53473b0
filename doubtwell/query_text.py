"""Queries as text."""

from doubtwell.errors import InvalidText
from doubtwell.intervals import is_name
from doubtwell.queries import MAX_QUERIES, names_of
from doubtwell.rationals import is_fraction

SEPARATOR = "; "
MAX_DIGITS = 12


def format_fraction(value):
    """Return the text of a fraction."""
    numerator, denominator = value
    return str(numerator) if denominator == 1 else f"{numerator}/{denominator}"


def format_query(query):
    """Return the text of a query."""
    words = [query[0]]
    if query[0] == "above":
        words.append(format_fraction(query[2]))
    return " ".join(words + list(names_of(query)))


def format_queries(queries):
    """Return the text of a list of queries."""
    return "; ".join([format_query(query) for query in queries])


def is_short_number(text):
    """Tell whether a text consists of digits, and has not too many of them."""
    return 1 <= len(text) <= MAX_DIGITS and all(["0" <= letter <= "9" for letter in text])


def parse_fraction(word):
    """Return the fraction of a word, or None if it is not the text of a reduced fraction."""
    numerator, slash, denominator = word.partition("/")
    if not is_short_number(numerator.removeprefix("-")):
        return None
    if slash and not is_short_number(denominator):
        return None
    value = (int(numerator), int(denominator) if slash else 1)
    # Each fraction has one text only: no leading zeros, no "-0", no denominator of 1.
    return value if is_fraction(value) and format_fraction(value) == word else None


def are_text_names(names):
    """Tell whether these are distinct item names, with at least one of them."""
    return len(names) > 0 and all([is_name(name) for name in names]) and len(set(names)) == len(names)


def parse_query(text):
    """Return the query of a text, or None if it is invalid."""
    words = text.split(" ")
    kind = words[0]
    threshold = parse_fraction(words[1]) if kind == "above" and len(words) > 1 else None
    names = tuple(words[2:] if kind == "above" else words[1:])
    if not are_text_names(names):
        return None
    if kind == "above":
        return None if threshold is None else (kind, names, threshold)
    if kind == "compare":
        return (kind, *names) if len(names) == 2 else None
    return (kind, names) if kind in ("sort", "min", "max") else None


def parse_queries(text):
    """Return the list of queries of a text."""
    if text == "":
        return []
    found = []
    for index, part in enumerate(text.split(SEPARATOR)):
        query = parse_query(part)
        if query is None or index >= MAX_QUERIES:
            raise InvalidText(index)
        found.append(query)
    return found
