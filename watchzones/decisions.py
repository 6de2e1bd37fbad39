"""Whether a change can alter the answer to a query: counterexamples and refutations."""

from watchzones.basics import are_integers, is_tuple_of
from watchzones.cases import cases, constraint_for, constraints_of_case, parameter_node
from watchzones.databases import carried_out, completed, is_database, made_plain, parameters_of, with_rows
from watchzones.queries import answer
from watchzones.systems import form_cycle, solved

MOST_ROWS_TO_CHANGE = 29


def decide(scheme, query, change):
    """Return ('can', a counterexample) or, if there is none, ('never', a refutation)."""
    bars = []
    for case in cases(scheme, query, change[1]):
        word, found = solved_or_barred(constraints_of_case(scheme, query, change, case))
        if word == "solution":
            return ("can", _counterexample(scheme, query, change, case, found))
        bars.append(found)
    return ("never", bars)


def solved_or_barred(known):
    """Return ('solution', one) of the constraints that a dict has for reasons or, if there is none, ('bar', a bar)."""
    word, found = solved(list(known.values()))
    if word == "solution":
        return (word, found)
    names = list(known)
    return ("bar", [names[i] for i in found])


def _counterexample(scheme, query, change, case, solution):
    database, values = shown_by(scheme, query, change, case, solution)
    before, after = _answers(scheme, query, database, made_plain(scheme, change, values))
    return (database, values, before, after)


def shown_by(scheme, query, change, case, solution):
    """Return the database ahead of a change and the change's values that a solution of a case tells."""
    values = tuple([solution[parameter_node(name)] for name in parameters_of(change[2])])
    database = database_with_way(scheme, query, solution)
    if change[0] == "insert":
        row = _row_of_part(query, case[0][0], solution)
        database = with_rows(database, change[1], tuple([other for other in database[change[1]] if other != row]))
    return (database, values)


def _row_of_part(query, p, solution):
    return tuple([solution[variable] for variable in query[0][p][1]])


def database_with_way(scheme, query, solution):
    """Return a database with the way that a solution of a case tells; a changed row is among its rows."""
    tables = [[] for _ in scheme]
    for p, (table, _) in enumerate(query[0]):
        tables[table].append(_row_of_part(query, p, solution))
    return completed(scheme, tables)


def _answers(scheme, query, database, plain):
    behind, _ = carried_out(scheme, database, plain)
    return (answer(scheme, query, database), answer(scheme, query, behind))


def is_counterexample(scheme, query, change, value):
    """Tell for any value whether it is a counterexample."""
    if not is_tuple_of(value, 4):
        return False
    database, values, before, after = value
    if not is_database(scheme, database) or len(database[change[1]]) > MOST_ROWS_TO_CHANGE:
        return False
    plain = made_plain(scheme, change, values)
    if plain is None or not _are_outputs(before) or not _are_outputs(after) or len(before) == len(after):
        return False
    return (before, after) == _answers(scheme, query, database, plain)


def _are_outputs(value):
    if not isinstance(value, list):
        return False
    return all([isinstance(output, tuple) and are_integers(output) for output in value])


def is_refutation(scheme, query, change, value):
    """Tell for any value whether it is a refutation."""
    found = cases(scheme, query, change[1])
    if not isinstance(value, list) or len(value) != len(found):
        return False
    for case, bar in zip(found, value):
        if not is_bar(constraints_of_case(scheme, query, change, case), bar):
            return False
    return True


def is_bar(known, value):
    """Tell for any value whether it is a list of reasons whose constraints in a dict form a cycle."""
    if not isinstance(value, list):
        return False
    constraints = [constraint_for(known, reason) for reason in value]
    return None not in constraints and form_cycle(constraints)
