"""The zones of queries, kept for those who ask for them again and again."""

from watchzones.guards import passes
from watchzones.zones import zones


class ZoneBook:
    """The zones of those queries and tables of a scheme that were asked for."""

    def __init__(self, scheme):
        self.scheme = scheme
        self.found = {}

    def is_hit(self, query, table, row):
        """Tell whether a row lies in one of the zones of a query for a table."""
        if (query, table) not in self.found:
            self.found[(query, table)] = zones(self.scheme, query, table)
        return passes(self.found[(query, table)], row)
