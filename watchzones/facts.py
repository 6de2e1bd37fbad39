"""Facts about queries: whether they are empty, and whether their constraints are spare."""

from watchzones.cases import bare_cases, constraints_of_case
from watchzones.decisions import database_with_way, is_bar, solved_or_barred


def find_answer(scheme, query):
    """Return ('answers', a database in which the answer is not []) or ('empty', a showing of emptiness)."""
    word, found = _searched(scheme, query, None)
    return ("answers" if word == "database" else "empty", found)


def needed(scheme, query, i):
    """Return ('needed', a database in which constraint i makes a difference) or ('spare', a showing that it is)."""
    word, found = _searched(scheme, query, i)
    return ("needed" if word == "database" else "spare", found)


def _searched(scheme, query, i):
    """Return ('database', one with a way that meets the bare constraints) or ('showing', a bar for each bare case)."""
    bars = []
    for case in bare_cases(scheme, query):
        word, found = solved_or_barred(_bare_constraints(scheme, query, i, case))
        if word == "solution":
            return ("database", database_with_way(scheme, query, found))
        bars.append(found)
    return ("showing", bars)


def _bare_constraints(scheme, query, i, case):
    """Return a dict from the reasons of a bare case to their constraints; constraint i, if not None, does not hold."""
    known = constraints_of_case(scheme, query, None, case)
    if i is None:
        return known
    x, y, c = query[1][i]
    others = {reason: constraint for reason, constraint in known.items() if reason != ("constraint", i)}
    return {**others, ("not", i): (y, x, -c - 1)}


def is_empty(scheme, query, value):
    """Tell for any value whether it is a showing that a query is empty."""
    return _is_showing(scheme, query, None, value)


def is_spare(scheme, query, i, value):
    """Tell for any value whether it is a showing that constraint i of a query is spare."""
    return _is_showing(scheme, query, i, value)


def _is_showing(scheme, query, i, value):
    found = bare_cases(scheme, query)
    if not isinstance(value, list) or len(value) != len(found):
        return False
    return all([is_bar(_bare_constraints(scheme, query, i, case), bar) for case, bar in zip(found, value)])
