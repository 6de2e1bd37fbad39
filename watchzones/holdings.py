"""What a cache has: queries and their answers, with the marks to which it can go back."""

from watchzones.checks import check_answer, check_mark_number, check_query, check_query_number
from watchzones.errors import Disagrees


class Holding:
    """Queries of a scheme, numbered as they come, with an answer or None for each."""

    def __init__(self, scheme):
        self.scheme = scheme
        self.queries = []
        self.answers = []
        self.marks = []

    def add(self, query):
        """Take a query more; return its number."""
        check_query(self.scheme, query)
        self.queries.append(query)
        self.answers.append(None)
        return len(self.queries) - 1

    def take_in(self, number, rows):
        """Give a query an answer, perhaps the one that it has."""
        check_query_number(number, len(self.queries))
        check_answer(self.queries[number], rows)
        if self.answers[number] is not None and self.answers[number] != rows:
            raise Disagrees(number)
        self.answers[number] = list(rows)

    def look(self, number):
        """Return the answer of a query, or None."""
        check_query_number(number, len(self.queries))
        return None if self.answers[number] is None else list(self.answers[number])

    def held(self):
        """Return the ascending list of the numbers of the queries that have an answer."""
        return [number for number, rows in enumerate(self.answers) if rows is not None]

    def end(self, numbers):
        """End the answers of the queries with these numbers."""
        for number in numbers:
            self.answers[number] = None

    def mark(self):
        """Make a mark; return its number."""
        self.marks.append((list(self.queries), list(self.answers)))
        return len(self.marks) - 1

    def back(self, number):
        """Go back to a mark, which stays; later ones are gone."""
        check_mark_number(number, len(self.marks))
        queries, answers = self.marks[number]
        self.queries = list(queries)
        self.answers = list(answers)
        self.marks = self.marks[:number + 1]
