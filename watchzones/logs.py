"""Logs of caches, which are checked without any search."""

from watchzones.basics import is_integer, is_tuple_of, is_worded
from watchzones.checks import is_plain_change
from watchzones.decisions import is_counterexample, is_refutation
from watchzones.errors import WatchzonesError
from watchzones.holdings import Holding

LENGTHS = {"add": 2, "take in": 3, "tell": 3, "mark": 1, "back": 2}


def first_fault(scheme, value):
    """Return the number of the first entry of a list of any values that is not right, or None if it is a log."""
    holding = Holding(scheme)
    for number, entry in enumerate(value):
        if not _has_form(entry) or not _is_followed(holding, entry):
            return number
    return None


def is_log(scheme, value):
    """Tell for any value whether it is a log for a scheme."""
    return isinstance(value, list) and first_fault(scheme, value) is None


def replayed(scheme, entries):
    """Return the list of the queries behind a log, and the list of their answers, None for those without."""
    holding = Holding(scheme)
    for entry in entries:
        _follow(holding, entry)
    return (holding.queries, [holding.look(number) for number in range(len(holding.queries))])


def _has_form(value):
    return is_worded(value) and LENGTHS.get(value[0]) == len(value)


def _is_followed(holding, entry):
    """Tell whether an entry is right behind those that were followed, and follow it if it is."""
    if entry[0] == "tell" and not _is_right_telling(holding, entry[1], entry[2]):
        return False
    try:
        _follow(holding, entry)
    except WatchzonesError:
        return False
    return True


def _follow(holding, entry):
    """Do what the call of an entry does, as its papers say it, or raise the error that this call raises."""
    word = entry[0]
    if word == "add":
        holding.add(entry[1])
    elif word == "take in":
        holding.take_in(entry[1], entry[2])
    elif word == "tell":
        holding.end([number for number, paper in entry[2] if paper[0] == "can"])
    elif word == "mark":
        holding.mark()
    else:
        holding.back(entry[1])


def _is_right_telling(holding, change, papers):
    numbers = holding.held()
    if not is_plain_change(holding.scheme, change) or not is_tuple_of(papers, len(numbers)):
        return False
    for number, item in zip(numbers, papers):
        if not is_tuple_of(item, 2) or not is_integer(item[0]) or item[0] != number:
            return False
        if not _is_paper(holding.scheme, holding.queries[number], change, item[1]):
            return False
    return True


def _is_paper(scheme, query, change, value):
    if not is_tuple_of(value, 2):
        return False
    word, found = value
    if word == "can":
        return is_counterexample(scheme, query, change, found)
    return word == "never" and is_refutation(scheme, query, change, found)
