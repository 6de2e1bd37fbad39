"""Watchzones: which changes of tables can alter the answer to a query."""
