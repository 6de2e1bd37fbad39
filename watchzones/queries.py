"""Queries of a scheme, their ways and their answers."""

from watchzones.basics import is_constraint, is_tuple_of, lies_between

GREATEST_VARIABLE = 15
MOST_PARTS = 4


def is_query(scheme, value):
    """Tell for any value whether it is a query for a scheme."""
    if not is_tuple_of(value, 3):
        return False
    parts, constraints, output = value
    if not isinstance(parts, tuple) or not 1 <= len(parts) <= MOST_PARTS:
        return False
    if not all([_is_part(scheme, part) for part in parts]):
        return False
    names = [variable for _, variables in parts for variable in variables]
    if not isinstance(constraints, tuple) or len(constraints) > 8:
        return False
    if not all([is_constraint(constraint, names) for constraint in constraints]):
        return False
    if not isinstance(output, tuple) or len(output) > 8:
        return False
    return all([_is_variable(variable) and variable in names for variable in output])


def _is_part(scheme, value):
    if not is_tuple_of(value, 2):
        return False
    table, variables = value
    if not lies_between(table, 0, len(scheme) - 1) or not is_tuple_of(variables, len(scheme[table][0])):
        return False
    return all([_is_variable(variable) for variable in variables])


def _is_variable(value):
    return lies_between(value, 0, GREATEST_VARIABLE)


def ways(scheme, query, database):
    """Return the ascending list of all ways of a query in a database."""
    return ways_among(query, [database[table] for table, _ in query[0]])


def ways_among(query, candidates):
    """Return the ascending list of the ways whose parts have rows among the ascending candidates of each part."""
    found = []
    _complete(_steps(query), candidates, (), found)
    return found


def answer(scheme, query, database):
    """Return the ascending list of the outputs of all ways of a query in a database."""
    return outputs_of(query, ways(scheme, query, database))


def outputs_of(query, found):
    """Return the ascending list of the outputs of these ways of a query."""
    first = _first_places(query)
    places = [first[variable] for variable in query[2]]
    return sorted([tuple([rows[p][j] for p, j in places]) for rows in found])


def _first_places(query):
    """Return a dict from each variable to the first place (part, column) where it stands."""
    first = {}
    for p, (_, variables) in enumerate(query[0]):
        for j, variable in enumerate(variables):
            first.setdefault(variable, (p, j))
    return first


def _steps(query):
    """Return for each part the places that its row must agree with, and the constraints to check.

    A constraint is checked at the first part behind which both of its sides are known.
    """
    parts, constraints, _ = query
    first = _first_places(query)
    steps = []
    for p, (_, variables) in enumerate(parts):
        agreeing = [(j, first[variable]) for j, variable in enumerate(variables) if first[variable] != (p, j)]
        due = [(first.get(x), first.get(y), c) for x, y, c in constraints if _last_part(first, x, y) == p]
        steps.append((agreeing, due))
    return steps


def _last_part(first, x, y):
    return max([first[side][0] for side in (x, y) if side is not None])


def _complete(steps, candidates, rows, found):
    """Append to found, ascending, each way that begins with these rows."""
    if len(rows) == len(steps):
        found.append(rows)
        return
    agreeing, due = steps[len(rows)]
    for row in candidates[len(rows)]:
        longer = (*rows, row)
        if _agrees(longer, agreeing) and _meets(longer, due):
            _complete(steps, candidates, longer, found)


def _agrees(rows, agreeing):
    row = rows[-1]
    for j, (p, k) in agreeing:
        if row[j] != rows[p][k]:
            return False
    return True


def _meets(rows, due):
    for x, y, c in due:
        if _number_at(rows, x) - _number_at(rows, y) > c:
            return False
    return True


def _number_at(rows, place):
    if place is None:
        return 0
    p, j = place
    return rows[p][j]
