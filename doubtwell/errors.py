"""The errors of the program.

An error without an attribute of its own takes a message, so that it can tell
which rule was broken. The others make their message from their attribute.
"""


class QueryError(ValueError):
    """The base class of errors about invalid arguments and states."""

    def __init__(self, message="", code=""):
        ValueError.__init__(self, message)
        self.code = code


class InvalidFraction(QueryError):
    """A value is not a reduced fraction."""

    def __init__(self, message="not a reduced fraction"):
        QueryError.__init__(self, message, "fraction")


class InvalidIntervals(QueryError):
    """An interval list breaks a rule."""

    def __init__(self, message="not an interval list"):
        QueryError.__init__(self, message, "intervals")


class InvalidName(QueryError):
    """A name is not an item name."""

    def __init__(self, message="not an item name"):
        QueryError.__init__(self, message, "name")


class DuplicateName(QueryError):
    """There is already an item of this name."""

    def __init__(self, name):
        QueryError.__init__(self, f"there is already an item {name!r}", "duplicate")
        self.name = name


class CapacityExceeded(QueryError):
    """There is no room for another item, or a capacity is out of range."""

    def __init__(self, message="the capacity is exceeded"):
        QueryError.__init__(self, message, "capacity")


class InvalidBounds(QueryError):
    """A pair of bounds, or a number that has bounds, breaks a rule."""

    def __init__(self, message="not valid bounds"):
        QueryError.__init__(self, message, "bounds")


class InvalidPrice(QueryError):
    """The price of an item is out of range."""

    def __init__(self, name):
        QueryError.__init__(self, f"the price of item {name!r} is out of range", "price")
        self.name = name


class InvalidQuery(QueryError):
    """A query is malformed, or there are too many."""

    def __init__(self, index):
        QueryError.__init__(self, f"the query at index {index} is invalid", "query")
        self.index = index


class InvalidText(QueryError):
    """A query in a text is invalid."""

    def __init__(self, index):
        QueryError.__init__(self, f"the query at index {index} of the text is invalid", "text")
        self.index = index


class InvalidValue(QueryError):
    """A value is not possible for its item."""

    def __init__(self, name):
        QueryError.__init__(self, f"the value of item {name!r} is not possible", "value")
        self.name = name


class Uncertain(QueryError):
    """A query has no certain answer."""

    def __init__(self, index):
        QueryError.__init__(self, f"the query at index {index} is not certain", "uncertain")
        self.index = index


class LimitExceeded(QueryError):
    """There are too many cases to try."""

    def __init__(self, count):
        QueryError.__init__(self, f"{count} are too many to try", "limit")
        self.count = count


class NoHistory(QueryError):
    """There is no step to undo or to redo."""

    def __init__(self, message="there is no such step"):
        QueryError.__init__(self, message, "history")


class NotFound(LookupError):
    """The base class of errors about missing entries."""

    def __init__(self, message="", code=""):
        LookupError.__init__(self, message)
        self.code = code


class UnknownItem(NotFound):
    """There is no item of this name."""

    def __init__(self, name):
        NotFound.__init__(self, f"there is no item {name!r}", "item")
        self.name = name


class MissingValue(NotFound):
    """A value that is needed has no entry."""

    def __init__(self, name):
        NotFound.__init__(self, f"there is no value for item {name!r}", "missing")
        self.name = name
