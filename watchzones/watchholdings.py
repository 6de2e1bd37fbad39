"""What a watcher has: queries and watches, with the marks to which it can go back."""

from watchzones.checks import check_mark_number, check_output, check_query_number, check_truth, check_watched_query
from watchzones.errors import Disagrees
from watchzones.watchererrors import NotWatched


def stays(truth, change):
    """Tell whether a plain change ends no watch with this truth: more rows take no way away, fewer bring none."""
    return truth == (change[0] == "insert")


class WatchHolding:
    """Queries of a scheme, numbered as they come, and the truth of each watch, a pair of a number and an output."""

    def __init__(self, scheme):
        self.scheme = scheme
        self.queries = []
        self.truths = {}
        self.marks = []

    def add(self, query):
        """Take a query more; return its number."""
        check_watched_query(self.scheme, query)
        self.queries.append(query)
        return len(self.queries) - 1

    def take_in(self, number, output, is_in):
        """Take a watch in, perhaps one that stands with the same truth."""
        self._check_watch(number, output)
        check_truth(is_in)
        if self.truths.get((number, output), is_in) != is_in:
            raise Disagrees(number)
        self.truths[(number, output)] = is_in

    def _check_watch(self, number, output):
        check_query_number(number, len(self.queries))
        check_output(self.queries[number], output)

    def drop(self, number, output):
        """Take a watch out."""
        self._check_watch(number, output)
        if (number, output) not in self.truths:
            raise NotWatched(number, output)
        self.end([(number, output)])

    def look(self, number, output):
        """Return the truth of a watch, or None if there is none."""
        self._check_watch(number, output)
        return self.truths.get((number, output))

    def held(self):
        """Return the ascending list of all watches with their truths."""
        return sorted([(number, output, truth) for (number, output), truth in self.truths.items()])

    def end(self, watches):
        """End these watches."""
        for watch in watches:
            self.truths.pop(watch)

    def mark(self):
        """Make a mark; return its number."""
        self.marks.append((list(self.queries), {watch: truth for watch, truth in self.truths.items()}))
        return len(self.marks) - 1

    def back(self, number):
        """Go back to a mark, which stays; later ones are gone."""
        check_mark_number(number, len(self.marks))
        queries, truths = self.marks[number]
        self.queries = list(queries)
        self.truths = {watch: truth for watch, truth in truths.items()}
        self.marks = self.marks[:number + 1]
