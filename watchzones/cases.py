"""Cases of a query and a changed table, and the reasons that hold in them."""

from watchzones.basics import are_integers, is_worded
from watchzones.databases import PARAMETERS, value_columns
from watchzones.errors import TooManyCases

MOST_CASES = 300
ROW_NODE = 16
PARAMETER_NODE = 20


def count_cases(scheme, query, table):
    """Return the number of cases of a query and a changed table."""
    return sum([_count_splits(scheme, query, table, taken) for taken in _choices_of_parts(query, table)])


def count_bare(scheme, query):
    """Return the number of bare cases of a query."""
    return _count_splits(scheme, query, None, ())


def cases(scheme, query, table):
    """Return the ascending list of the cases of a query and a changed table."""
    _refuse_too_many(count_cases(scheme, query, table))
    choices = _choices_of_parts(query, table)
    return [(taken, splits) for taken in choices for splits in _all_splits(scheme, query, table, taken)]


def bare_cases(scheme, query):
    """Return the ascending list of the bare cases of a query."""
    _refuse_too_many(count_bare(scheme, query))
    return [((), splits) for splits in _all_splits(scheme, query, None, ())]


def _refuse_too_many(number):
    if number > MOST_CASES:
        raise TooManyCases(number)


def _choices_of_parts(query, table):
    """Return the ascending list of the non-empty ascending tuples of parts of a table."""
    found = [()]
    for p, (own, _) in enumerate(query[0]):
        if own == table:
            found = found + [(*taken, p) for taken in found]
    return sorted(found)[1:]


def split_places(scheme, query, table, taken):
    """Return, in the order of the splits, the reasons that splits other than 0 allow."""
    parts = query[0]
    outside = [p for p in range(len(parts)) if p not in taken]
    pairs = [("apart", p, q) for p in outside for q in outside if p < q and parts[p][0] == parts[q][0]]
    rows = [("row apart", p) for p in outside if parts[p][0] == table]
    references = [("reference apart", p, i) for p in outside
                  for i, (_, referred) in enumerate(scheme[parts[p][0]][2]) if referred == table]
    return pairs + rows + references


def _facing(scheme, query, place):
    """Return for a place of a split the pairs of nodes of which one is below the other."""
    table, variables = query[0][place[1]]
    _, key, references = scheme[table]
    if place[0] == "apart":
        others = query[0][place[2]][1]
        return [(variables[j], others[j]) for j in key]
    if place[0] == "row apart":
        return [(variables[j], ROW_NODE + j) for j in key]
    columns, referred = references[place[2]]
    return [(variables[j], ROW_NODE + k) for j, k in zip(columns, scheme[referred][1])]


def _possible_splits(scheme, query, place):
    lowest = 0 if place[0] == "apart" else 1
    return list(range(lowest, 2 * len(_facing(scheme, query, place)) + 1))


def _count_splits(scheme, query, table, taken):
    number = 1
    for place in split_places(scheme, query, table, taken):
        number *= len(_possible_splits(scheme, query, place))
    return number


def _all_splits(scheme, query, table, taken):
    found = [()]
    for place in split_places(scheme, query, table, taken):
        possible = _possible_splits(scheme, query, place)
        found = [(*splits, split) for splits in found for split in possible]
    return found


def reasons(scheme, query, table, case):
    """Return the ascending list of the reasons that a case allows without a change."""
    return list(constraints_of_case(scheme, query, None, case))


def constraint_of(scheme, query, change, case, reason):
    """Return the constraint for which a reason, which may be any value, stands, or None."""
    return constraint_for(constraints_of_case(scheme, query, change, case), reason)


def constraint_for(known, reason):
    """Return what a dict has for a reason, which may be any value, or None."""
    # A reason with a truth in it would be found in the dict, too.
    if not is_worded(reason) or not are_integers(reason[1:]):
        return None
    return known.get(reason)


def constraints_of_case(scheme, query, change, case):
    """Return a dict from each reason that a case and a change, or None, allow, ascending, to its constraint."""
    taken = case[0]
    # The changed table is that of each part that takes the changed row; a bare case has none.
    table = query[0][taken[0]][0] if taken else None
    found = _of_query(scheme, query) + _of_splits(scheme, query, table, case)
    if taken:
        found = found + _of_row(scheme, query, table, taken)
    if change is not None:
        found = found + of_change(scheme, change, ROW_NODE)
    return {reason: constraint for reason, constraint in sorted(found)}


def _of_query(scheme, query):
    parts, constraints, _ = query
    found = [(("constraint", i), constraint) for i, constraint in enumerate(constraints)]
    for p, (table, variables) in enumerate(parts):
        for j, (low, high) in enumerate(scheme[table][0]):
            found.append((("low", p, j), (None, variables[j], -low)))
            found.append((("high", p, j), (variables[j], None, high)))
    return found


def _of_splits(scheme, query, table, case):
    taken, splits = case
    found = []
    for place, split in zip(split_places(scheme, query, table, taken), splits):
        if split == 0:
            found.extend(_of_same(query, place[1], place[2]))
        else:
            x, y = _facing(scheme, query, place)[(split - 1) // 2]
            found.append((place, (x, y, -1) if split % 2 == 1 else (y, x, -1)))
    return found


def _of_same(query, p, q):
    found = []
    for j, (x, y) in enumerate(zip(query[0][p][1], query[0][q][1])):
        found.append((("same", p, q, j, 0), (x, y, 0)))
        found.append((("same", p, q, j, 1), (y, x, 0)))
    return found


def _of_row(scheme, query, table, taken):
    found = []
    for p in taken:
        for j, variable in enumerate(query[0][p][1]):
            found.append((("takes", p, j, 0), (variable, ROW_NODE + j, 0)))
            found.append((("takes", p, j, 1), (ROW_NODE + j, variable, 0)))
    for j, (low, high) in enumerate(scheme[table][0]):
        found.append((("row low", j), (None, ROW_NODE + j, -low)))
        found.append((("row high", j), (ROW_NODE + j, None, high)))
    return found


def of_change(scheme, change, first):
    """Return the pairs of the reasons of a change and their constraints, with nodes from first on for its row."""
    word, table, values, conditions = change
    found = []
    for k, (value, j) in enumerate(zip(values, value_columns(scheme, word, table))):
        node, number = (parameter_node(value), 0) if isinstance(value, str) else (None, value)
        found.append((("value", k, 0), (first + j, node, number)))
        found.append((("value", k, 1), (node, first + j, -number)))
    for i, (x, y, c) in enumerate(conditions):
        found.append((("condition", i), (parameter_node(x), parameter_node(y), c)))
    return found


def parameter_node(name):
    """Return the node of a parameter, or None for None."""
    return None if name is None else PARAMETER_NODE + PARAMETERS.index(name)
