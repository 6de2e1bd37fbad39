"""The cache: answers to queries, which end when a change can alter them."""

from watchzones.basics import copied
from watchzones.checks import check_plain_change
from watchzones.decisions import decide
from watchzones.holdings import Holding
from watchzones.zonebooks import ZoneBook


class Cache:
    """Queries of a scheme, an answer or none for each, and the log of all calls that changed something."""

    def __init__(self, scheme):
        self._scheme = scheme
        self._holding = Holding(scheme)
        self._zones = ZoneBook(scheme)
        self._entries = []

    def __eq__(self, other):
        if not isinstance(other, Cache):
            return False
        return self._scheme == other._scheme and self._entries == other._entries

    def add(self, query):
        """Take a query more; return its number."""
        number = self._holding.add(query)
        self._entries.append(("add", query))
        return number

    def take_in(self, number, rows):
        """Give a query an answer, perhaps the one that it has."""
        self._holding.take_in(number, rows)
        self._entries.append(("take in", number, list(rows)))

    def look(self, number):
        """Return the answer of a query, or None."""
        return self._holding.look(number)

    def held(self):
        """Return the ascending list of the numbers of the queries that have an answer."""
        return self._holding.held()

    def tell(self, change):
        """End the answers that a plain change can alter; return the ascending list of their numbers."""
        check_plain_change(self._scheme, change)
        queries = self._holding.queries
        papers = [(number, decide(self._scheme, queries[number], change)) for number in self._holding.held()]
        ended = [number for number, paper in papers if paper[0] == "can"]
        self._holding.end(ended)
        self._entries.append(("tell", change, tuple(papers)))
        return ended

    def watchers(self, table, row):
        """Return the ascending list of the numbers of the queries in whose zones for a table a row lies."""
        return [number for number, query in enumerate(self._holding.queries) if self._zones.is_hit(query, table, row)]

    def mark(self):
        """Make a mark; return its number."""
        number = self._holding.mark()
        self._entries.append(("mark",))
        return number

    def back(self, number):
        """Make queries and answers as they were at a mark, which stays; later marks are gone."""
        self._holding.back(number)
        self._entries.append(("back", number))

    def log(self):
        """Return the list of the entries of all calls so far that have one."""
        return copied(self._entries)
