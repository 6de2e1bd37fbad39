"""The store: a database, and queries whose answers are kept right."""

from watchzones.checks import check_mark_number, check_plain_change, check_query, check_query_number
from watchzones.databases import carried_out
from watchzones.queries import answer
from watchzones.repairs import changed_row, effects, repaired
from watchzones.zonebooks import ZoneBook


class Store:
    """A database of a scheme, queries with their answers in it, and how often each query was looked at."""

    def __init__(self, scheme, database):
        self._scheme = scheme
        self._database = database
        self._queries = []
        self._answers = []
        self._numbers_looked = []
        self._marks = []
        self._zones = ZoneBook(scheme)

    def add(self, query):
        """Take a query more; return its number."""
        check_query(self._scheme, query)
        self._queries.append(query)
        self._answers.append(answer(self._scheme, query, self._database))
        self._numbers_looked.append(0)
        return len(self._queries) - 1

    def carry(self, change):
        """Carry out a plain change and repair the answers; return None, or what hinders the change."""
        check_plain_change(self._scheme, change)
        behind, hindrance = carried_out(self._scheme, self._database, change)
        if hindrance is not None:
            return hindrance
        row = changed_row(self._scheme, self._database, change)
        for number, query in enumerate(self._queries):
            if self._zones.is_hit(query, change[1], row):
                self._look_at(number, change)
        self._database = behind
        return None

    def _look_at(self, number, change):
        gained, lost = effects(self._scheme, self._queries[number], self._database, change)
        self._answers[number] = repaired(self._answers[number], gained, lost)
        self._numbers_looked[number] += 1

    def look(self, number):
        """Return the answer of a query in the present database."""
        check_query_number(number, len(self._queries))
        return list(self._answers[number])

    def looked(self, number):
        """Return for how many changes a query was looked at since it was added."""
        check_query_number(number, len(self._queries))
        return self._numbers_looked[number]

    def tables(self):
        """Return the present database."""
        return self._database

    def mark(self):
        """Make a mark; return its number."""
        self._marks.append((self._database, list(self._queries), list(self._answers), list(self._numbers_looked)))
        return len(self._marks) - 1

    def back(self, number):
        """Make everything as it was at a mark, which stays; later marks are gone."""
        check_mark_number(number, len(self._marks))
        database, queries, answers, numbers_looked = self._marks[number]
        self._database = database
        self._queries = list(queries)
        self._answers = list(answers)
        self._numbers_looked = list(numbers_looked)
        self._marks = self._marks[:number + 1]
