"""The errors of watchers and boards."""

from watchzones.basics import copied
from watchzones.errors import WatchzonesError


class TooWide(WatchzonesError):
    """A query has too many parts or variables when it is made wide."""

    def __init__(self, query):
        WatchzonesError.__init__(self, "the wide query has too many parts or too great a variable")
        self.query = copied(query)


class InvalidOutput(WatchzonesError):
    """A value is no output that the query can have."""

    def __init__(self, value):
        WatchzonesError.__init__(self, "not an output of the query")
        self.value = copied(value)


class InvalidTruth(WatchzonesError):
    """A value is neither True nor False."""

    def __init__(self, value):
        WatchzonesError.__init__(self, "neither True nor False")
        self.value = copied(value)


class NotWatched(WatchzonesError):
    """There is no watch for this output of the query with this number."""

    def __init__(self, number, output):
        WatchzonesError.__init__(self, "this output of this query is not watched")
        self.number = copied(number)
        self.output = copied(output)


class FullTable(WatchzonesError):
    """A row would be put into a table that has as many as it may have."""

    def __init__(self, table):
        WatchzonesError.__init__(self, "this table takes no more rows")
        self.table = copied(table)


class Hindered(WatchzonesError):
    """The change with this number, among several, would do nothing."""

    def __init__(self, number, hindrance):
        WatchzonesError.__init__(self, "this change is hindered")
        self.number = copied(number)
        self.hindrance = copied(hindrance)
