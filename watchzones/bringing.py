"""Whether a change can bring an output into the set of a query, or take one away."""

from watchzones.basics import is_tuple_of
from watchzones.cases import cases
from watchzones.databases import carried_out, is_database, made_plain
from watchzones.decisions import MOST_ROWS_TO_CHANGE, shown_by
from watchzones.trees import find_tree, is_tree
from watchzones.waynumbers import set_answer
from watchzones.widening import widened


def decide_output(scheme, query, change, wanted):
    """Return ('can', a database, values) or, if there are none, ('never', a list with a tree for each case)."""
    wide = widened(scheme, query)
    trees = []
    for case in cases(scheme, wide, change[1]):
        word, found = find_tree(scheme, query, change, wanted, case)
        if word == "open":
            database, values = shown_by(scheme, wide, change, case, found)
            return ("can", database, values)
        trees.append(found)
    return ("never", trees)


def is_decision(scheme, query, change, wanted, value):
    """Tell for any value whether it is what decide_output may return."""
    found = cases(scheme, widened(scheme, query), change[1])
    if is_tuple_of(value, 3) and value[0] == "can":
        return _shows(scheme, query, change, wanted, value[1], value[2])
    if not is_tuple_of(value, 2) or value[0] != "never":
        return False
    trees = value[1]
    if not isinstance(trees, list) or len(trees) != len(found):
        return False
    return all([is_tree(scheme, query, change, wanted, case, tree) for case, tree in zip(found, trees)])


def _shows(scheme, query, change, wanted, database, values):
    """Tell for any database and any values whether the change, made plain by them, brings or takes what is wanted."""
    if not is_database(scheme, database) or len(database[change[1]]) > MOST_ROWS_TO_CHANGE:
        return False
    plain = made_plain(scheme, change, values)
    if plain is None:
        return False
    before = set_answer(scheme, query, database)
    behind = set_answer(scheme, query, carried_out(scheme, database, plain)[0])
    return before != behind if wanted is None else (wanted in before) != (wanted in behind)
