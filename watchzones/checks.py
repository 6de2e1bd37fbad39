"""Checks of arguments, which may be any values: each raises an error unless its argument is right."""

from watchzones.basics import are_integers, is_tuple_of, lies_between
from watchzones.cases import MOST_CASES, count_cases
from watchzones.databases import is_change, parameters_of
from watchzones.errors import InvalidAnswer, InvalidChange, InvalidQuery, TooManyCases, UnknownMark, UnknownQuery
from watchzones.queries import is_query
from watchzones.watchererrors import FullTable, InvalidOutput, InvalidTruth
from watchzones.widening import widened

MOST_OUTPUTS = 1000
GREATEST_WATCHED = 1000000000000000000000000000000
MOST_ROWS_TO_INSERT = 29
MOST_CHANGES = 8


def check_query(scheme, value):
    """Raise an error unless a value is a query that has no more than 300 cases for each table."""
    if not is_query(scheme, value):
        raise InvalidQuery(value)
    _check_cases(scheme, value)


def _check_cases(scheme, query):
    number = max([count_cases(scheme, query, table) for table in range(len(scheme))])
    if number > MOST_CASES:
        raise TooManyCases(number)


def check_watched_query(scheme, value):
    """Raise an error unless a value is a query whose wide query has no more than 300 cases for each table."""
    if not is_query(scheme, value):
        raise InvalidQuery(value)
    _check_cases(scheme, widened(scheme, value))


def check_query_number(value, many):
    """Raise an error unless a value is the number of one of so many queries."""
    if not lies_between(value, 0, many - 1):
        raise UnknownQuery(value)


def check_mark_number(value, many):
    """Raise an error unless a value is the number of one of so many marks."""
    if not lies_between(value, 0, many - 1):
        raise UnknownMark(value)


def is_plain_change(scheme, value):
    """Tell for any value whether it is a change without parameters and conditions."""
    return is_change(scheme, value) and parameters_of(value[2]) == [] and value[3] == ()


def check_plain_change(scheme, value):
    """Raise an error unless a value is a plain change."""
    if not is_plain_change(scheme, value):
        raise InvalidChange(value)


def check_answer(query, value):
    """Raise an error unless a value is an ascending list of at most 1000 tuples of integers for a query's output."""
    if not isinstance(value, list) or len(value) > MOST_OUTPUTS:
        raise InvalidAnswer(value)
    if not all([is_tuple_of(output, len(query[2])) and are_integers(output) for output in value]):
        raise InvalidAnswer(value)
    if value != sorted(value):
        raise InvalidAnswer(value)


def check_output(query, value):
    """Raise an error unless a value is a tuple with an integer from -10 ** 30 to 10 ** 30 for each output variable."""
    if not is_tuple_of(value, len(query[2])):
        raise InvalidOutput(value)
    if not all([lies_between(number, -GREATEST_WATCHED, GREATEST_WATCHED) for number in value]):
        raise InvalidOutput(value)


def check_truth(value):
    """Raise an error unless a value is True or False."""
    if not isinstance(value, bool):
        raise InvalidTruth(value)


def check_changes(scheme, value):
    """Raise an error unless a value is a list of at most eight plain changes."""
    if not isinstance(value, list) or len(value) > MOST_CHANGES:
        raise InvalidChange(value)
    if not all([is_plain_change(scheme, change) for change in value]):
        raise InvalidChange(value)


def check_room(database, change):
    """Raise an error if a plain change inserts into a table with 29 rows."""
    word, table, _, _ = change
    if word == "insert" and len(database[table]) >= MOST_ROWS_TO_INSERT:
        raise FullTable(table)
