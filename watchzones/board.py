"""The board: a database, the numbers of queries, and subscriptions that are told when their truth changes."""

from watchzones.basics import are_integers, is_integer, is_tuple_of
from watchzones.checks import check_changes, check_plain_change, check_query_number, check_room
from watchzones.databases import carried_out
from watchzones.repairs import effects
from watchzones.watchererrors import Hindered
from watchzones.watchers import Watcher
from watchzones.waynumbers import moved, numbers_of


class Board:
    """A database of a scheme, queries with their numbers in it, and subscriptions, each a watch of a watcher."""

    def __init__(self, scheme, database):
        self._scheme = scheme
        self._database = database
        self._queries = []
        self._numbers = []
        self._truths = {}
        self._number_wasted = 0
        self._marks = []
        self._watcher = Watcher(scheme)

    def __len__(self):
        return len(self._truths)

    def __contains__(self, x):
        # A truth in the place of 0 or 1 would be found in the dict, too.
        if not is_tuple_of(x, 2) or not is_integer(x[0]):
            return False
        return isinstance(x[1], tuple) and are_integers(x[1]) and x in self._truths

    def add(self, query):
        """Take a query more; return its number."""
        number = self._watcher.add(query)
        self._queries.append(query)
        self._numbers.append(numbers_of(self._scheme, query, self._database))
        return number

    def subscribe(self, number, output):
        """Take a subscription in, unless there is one; return whether the output is in the set of the query."""
        truth = self._watcher.look(number, output)
        if truth is None:
            truth = self._take_watch_in(number, output)
        return truth

    def _take_watch_in(self, number, output):
        truth = output in self._numbers[number]
        self._watcher.take_in(number, output, truth)
        self._truths[(number, output)] = truth
        return truth

    def leave(self, number, output):
        """Take a subscription out."""
        self._watcher.drop(number, output)
        self._truths.pop((number, output))

    def carry(self, change):
        """Carry out a plain change; return what hinders it or None, what it moved, and the truths that changed."""
        check_plain_change(self._scheme, change)
        check_room(self._database, change)
        behind, hindrance = carried_out(self._scheme, self._database, change)
        if hindrance is not None:
            return (hindrance, [], [])
        moves = self._move_numbers(change)
        self._database = behind
        return (None, moves, self._tell_watcher(change))

    def _move_numbers(self, change):
        """Make the numbers those behind a change; return the list of what it brings and takes, by queries."""
        moves = []
        for number, query in enumerate(self._queries):
            gained, lost = effects(self._scheme, query, self._database, change)
            behind, brought, taken = moved(self._numbers[number], gained, lost)
            self._numbers[number] = behind
            if brought != [] or taken != []:
                moves.append((number, brought, taken))
        return moves

    def _tell_watcher(self, change):
        """Tell the watcher a change, and take in again what it ends; return the list of the truths that changed."""
        ended = self._watcher.tell(change)
        news = []
        for number, output in ended:
            before = self._truths[(number, output)]
            truth = self._take_watch_in(number, output)
            if truth == before:
                self._number_wasted += 1
            else:
                news.append((number, output, truth))
        return news

    def carry_all(self, changes):
        """Carry out plain changes, one after the other, all or none; return the list of what carry returns for them."""
        check_changes(self._scheme, changes)
        database = self._database
        for number, change in enumerate(changes):
            check_room(database, change)
            database, hindrance = carried_out(self._scheme, database, change)
            if hindrance is not None:
                raise Hindered(number, hindrance)
        return [self.carry(change) for change in changes]

    def tables(self):
        """Return the present database."""
        return self._database

    def subscribed(self):
        """Return the ascending list of all subscriptions, (number, output, truth)."""
        return self._watcher.held()

    def counts(self, number):
        """Return the numbers of a query."""
        check_query_number(number, len(self._queries))
        return {output: many for output, many in self._numbers[number].items()}

    def waste(self):
        """Return for how many subscriptions a watch ended while the truth stayed."""
        return self._number_wasted

    def watch_log(self):
        """Return the log of the watcher."""
        return self._watcher.log()

    def mark(self):
        """Make a mark; return its number."""
        truths = {watch: truth for watch, truth in self._truths.items()}
        self._marks.append((self._database, list(self._queries), list(self._numbers), truths, self._number_wasted))
        return self._watcher.mark()

    def back(self, number):
        """Make everything as it was at a mark, which stays; later marks are gone."""
        self._watcher.back(number)
        database, queries, numbers, truths, number_wasted = self._marks[number]
        self._database = database
        self._queries = list(queries)
        self._numbers = list(numbers)
        self._truths = {watch: truth for watch, truth in truths.items()}
        self._number_wasted = number_wasted
        self._marks = self._marks[:number + 1]
