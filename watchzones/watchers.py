"""The watcher: outputs that are or are not in the sets of queries, which end when a change can alter that."""

from watchzones.basics import copied
from watchzones.bringing import decide_output
from watchzones.checks import check_plain_change
from watchzones.watchholdings import WatchHolding, stays


class Watcher:
    """Queries of a scheme, watches of their outputs, and the log of all calls that may have changed something."""

    def __init__(self, scheme):
        self._scheme = scheme
        self._holding = WatchHolding(scheme)
        self._entries = []

    def __eq__(self, other):
        if not isinstance(other, Watcher):
            return False
        return self._scheme == other._scheme and self._entries == other._entries

    def add(self, query):
        """Take a query more; return its number."""
        number = self._holding.add(query)
        self._entries.append(("add", query))
        return number

    def take_in(self, number, output, is_in):
        """Take in the watch that an output of a query is in the set, or is not."""
        self._holding.take_in(number, output, is_in)
        self._entries.append(("take in", number, output, is_in))

    def drop(self, number, output):
        """Take a watch out."""
        self._holding.drop(number, output)
        self._entries.append(("drop", number, output))

    def look(self, number, output):
        """Return the truth of a watch, or None if there is none."""
        return self._holding.look(number, output)

    def held(self):
        """Return the ascending list of all watches, (number, output, truth)."""
        return self._holding.held()

    def tell(self, change):
        """End the watches that a plain change ends; return the ascending list of their numbers and outputs."""
        check_plain_change(self._scheme, change)
        papers = [(number, output, self._paper(number, output, truth, change)) for number, output, truth in self.held()]
        ended = [(number, output) for number, output, paper in papers if paper[0] == "can"]
        self._holding.end(ended)
        self._entries.append(("tell", change, tuple(papers)))
        return ended

    def _paper(self, number, output, truth, change):
        if stays(truth, change):
            return ("way",)
        return decide_output(self._scheme, self._holding.queries[number], change, output)

    def mark(self):
        """Make a mark; return its number."""
        number = self._holding.mark()
        self._entries.append(("mark",))
        return number

    def back(self, number):
        """Make queries and watches as they were at a mark, which stays; later marks are gone."""
        self._holding.back(number)
        self._entries.append(("back", number))

    def log(self):
        """Return the list of the entries of all calls so far that have one."""
        return copied(self._entries)
