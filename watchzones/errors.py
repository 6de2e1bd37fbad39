"""The errors that the library raises."""

from watchzones.basics import copied


class WatchzonesError(ValueError):
    """The base of all errors of the library."""


class TooManyCases(WatchzonesError):
    """A query has more cases than are gone through."""

    def __init__(self, number):
        WatchzonesError.__init__(self, "too many cases")
        self.number = copied(number)


class InvalidQuery(WatchzonesError):
    """A value is no query of the scheme."""

    def __init__(self, value):
        WatchzonesError.__init__(self, "not a query of the scheme")
        self.value = copied(value)


class InvalidChange(WatchzonesError):
    """A value is no change that may be told or carried out."""

    def __init__(self, value):
        WatchzonesError.__init__(self, "not a plain change of the scheme")
        self.value = copied(value)


class InvalidAnswer(WatchzonesError):
    """A value is no answer that the query can have."""

    def __init__(self, value):
        WatchzonesError.__init__(self, "not an answer of the query")
        self.value = copied(value)


class UnknownQuery(WatchzonesError):
    """There is no query with this number."""

    def __init__(self, number):
        WatchzonesError.__init__(self, "no query has this number")
        self.number = copied(number)


class UnknownMark(WatchzonesError):
    """There is no mark with this number."""

    def __init__(self, number):
        WatchzonesError.__init__(self, "no mark has this number")
        self.number = copied(number)


class Disagrees(WatchzonesError):
    """What is taken in for the query with this number contradicts what is known of it."""

    def __init__(self, number):
        WatchzonesError.__init__(self, "this query has another answer")
        self.number = copied(number)
