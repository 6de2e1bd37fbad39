"""Logs of watchers, which are checked without any search."""

from watchzones.basics import are_integers, is_integer, is_tuple_of, is_worded
from watchzones.bringing import is_decision
from watchzones.checks import is_plain_change
from watchzones.errors import WatchzonesError
from watchzones.watchholdings import WatchHolding, stays

LENGTHS = {"add": 2, "take in": 4, "drop": 3, "tell": 3, "mark": 1, "back": 2}


def first_watch_fault(scheme, value):
    """Return the number of the first entry of a list of any values that is not right, or None."""
    holding = WatchHolding(scheme)
    for number, entry in enumerate(value):
        if not _has_form(entry) or not _is_followed(holding, entry):
            return number
    return None


def is_watch_log(scheme, value):
    """Tell for any value whether it is a watcher log for a scheme."""
    return isinstance(value, list) and first_watch_fault(scheme, value) is None


def watches_behind(scheme, entries):
    """Return the list of the queries behind a watcher log, and the ascending list of the watches."""
    holding = WatchHolding(scheme)
    for entry in entries:
        _follow(holding, entry)
    return (holding.queries, holding.held())


def _has_form(value):
    return is_worded(value) and LENGTHS.get(value[0]) == len(value)


def _is_followed(holding, entry):
    """Tell whether an entry is right behind those that were followed, and follow it if it is."""
    if entry[0] == "tell" and not _is_right_telling(holding, entry[1], entry[2]):
        return False
    try:
        _follow(holding, entry)
    except WatchzonesError:
        return False
    return True


def _follow(holding, entry):
    """Do what the call of an entry does, as its papers say it, or raise the error that this call raises."""
    word = entry[0]
    if word == "add":
        holding.add(entry[1])
    elif word == "take in":
        holding.take_in(entry[1], entry[2], entry[3])
    elif word == "drop":
        holding.drop(entry[1], entry[2])
    elif word == "tell":
        holding.end([(number, output) for number, output, paper in entry[2] if paper[0] == "can"])
    elif word == "mark":
        holding.mark()
    else:
        holding.back(entry[1])


def _is_right_telling(holding, change, papers):
    watches = holding.held()
    if not is_plain_change(holding.scheme, change) or not is_tuple_of(papers, len(watches)):
        return False
    return all([_is_for_watch(holding, watch, change, item) for watch, item in zip(watches, papers)])


def _is_for_watch(holding, watch, change, value):
    """Tell for any value whether it is the number and the output of a watch with a right paper."""
    number, output, truth = watch
    if not is_tuple_of(value, 3) or not is_integer(value[0]) or not isinstance(value[1], tuple):
        return False
    # A truth in the place of 0 or 1 would be equal to it.
    if not are_integers(value[1]) or (value[0], value[1]) != (number, output):
        return False
    paper = value[2]
    if stays(truth, change):
        return paper == ("way",)
    return is_decision(holding.scheme, holding.queries[number], change, output, paper)
