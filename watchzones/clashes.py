"""Whether the order of two changes matters: clashes, and cycles that exclude them."""

from watchzones.basics import is_tuple_of, picked
from watchzones.cases import ROW_NODE, of_change, parameter_node
from watchzones.databases import carried_out, completed, is_database, made_plain, parameters_of, with_rows
from watchzones.decisions import MOST_ROWS_TO_CHANGE
from watchzones.systems import is_cycle, solved

OTHER_ROW_NODE = 24


def clash_systems(scheme, one, other):
    """Return the list of the systems of two changes."""
    common = _common_constraints(scheme, one, other)
    meetings = _of_one_table(scheme, one, other) + _of_two_tables(scheme, one, other)
    return [common + meeting for meeting in meetings]


def _common_constraints(scheme, one, other):
    """Return the constraints that stand in each system: those of the rows, the values and the conditions."""
    bounds = _bounds_of_row(scheme, one[1], ROW_NODE) + _bounds_of_row(scheme, other[1], OTHER_ROW_NODE)
    told = of_change(scheme, one, ROW_NODE) + of_change(scheme, other, OTHER_ROW_NODE)
    values = [constraint for reason, constraint in told if reason[0] == "value"]
    conditions = [constraint for reason, constraint in told if reason[0] == "condition"]
    return bounds + values + conditions


def _bounds_of_row(scheme, table, first):
    found = []
    for j, (low, high) in enumerate(scheme[table][0]):
        found.append((None, first + j, -low))
        found.append((first + j, None, high))
    return found


def _of_one_table(scheme, one, other):
    """Return, for each system of two changes of one table, its constraints between the two rows."""
    if one[1] != other[1] or (one[0], other[0]) == ("delete", "delete"):
        return []
    columns, key, _ = scheme[one[1]]
    met = _equal(key, key)
    if one[0] != other[0]:
        return [met]
    found = []
    for j in range(len(columns)):
        if j not in key:
            found.append([*met, (ROW_NODE + j, OTHER_ROW_NODE + j, -1)])
            found.append([*met, (OTHER_ROW_NODE + j, ROW_NODE + j, -1)])
    return found


def _of_two_tables(scheme, one, other):
    """Return, for each system of a change and one of a table that refers to its, the constraints between the rows."""
    key, other_key = scheme[one[1]][1], scheme[other[1]][1]
    to_other = [_equal(columns, other_key) for columns in _references_that_matter(scheme, one, other)]
    to_one = [_equal(key, columns) for columns in _references_that_matter(scheme, other, one)]
    return to_other + to_one


def _references_that_matter(scheme, change, target):
    """Return the columns of each reference from a change's table to a target's, unless the order cannot matter."""
    if (change[0], target[0]) == ("delete", "insert"):
        return []
    return [columns for columns, referred in scheme[change[1]][2] if referred == target[1]]


def _equal(columns, other_columns):
    found = []
    for j, k in zip(columns, other_columns):
        found.append((ROW_NODE + j, OTHER_ROW_NODE + k, 0))
        found.append((OTHER_ROW_NODE + k, ROW_NODE + j, 0))
    return found


def clash(scheme, one, other):
    """Return ('clash', a clash of two changes) or, if there is none, ('none', a cycle for each of their systems)."""
    cycles = []
    for system in clash_systems(scheme, one, other):
        word, found = solved(system)
        if word == "solution":
            return ("clash", _clash_by(scheme, one, other, found))
        cycles.append(found)
    return ("none", cycles)


def _clash_by(scheme, one, other, solution):
    values = tuple([solution[parameter_node(name)] for name in parameters_of(one[2] + other[2])])
    database = _database_ahead(scheme, one, other, solution)
    first, second = _both_orders(scheme, database, _made_plain_both(scheme, one, other, values))
    return (database, values, first, second)


def _database_ahead(scheme, one, other, solution):
    """Return a database with what the rows of a solution refer to, and with these rows as far as they are taken out."""
    database = tuple([() for _ in scheme])
    rows = []
    for change, first in ((one, ROW_NODE), (other, OTHER_ROW_NODE)):
        row = tuple([solution[first + j] for j in range(len(scheme[change[1]][0]))])
        rows.append((change, row))
        # One after the other: of two rows with one key, the first one must get what it refers to, too.
        database = completed(scheme, _with_row_more(database, change[1], row))
    for (word, table, _, _), row in rows:
        if word == "insert":
            database = _without_key_of(scheme, database, table, row)
    return database


def _with_row_more(database, table, row):
    return [(*rows, row) if number == table else rows for number, rows in enumerate(database)]


def _without_key_of(scheme, database, table, row):
    key = scheme[table][1]
    return with_rows(database, table, tuple([
        another for another in database[table] if picked(another, key) != picked(row, key)]))


def _made_plain_both(scheme, one, other, values):
    """Return the pair of plain changes that values, which may be anything, make of two changes, or None."""
    names = parameters_of(one[2] + other[2])
    if not is_tuple_of(values, len(names)):
        return None
    known = dict(zip(names, values))
    made = [_made_plain_by(scheme, change, known) for change in (one, other)]
    return None if None in made else tuple(made)


def _made_plain_by(scheme, change, known):
    return made_plain(scheme, change, tuple([known[name] for name in parameters_of(change[2])]))


def _both_orders(scheme, database, plain):
    """Return the database behind the first and then the second plain change, and behind the second, then the first."""
    one, other = plain
    return (_behind_both(scheme, database, one, other), _behind_both(scheme, database, other, one))


def _behind_both(scheme, database, one, other):
    between, _ = carried_out(scheme, database, one)
    behind, _ = carried_out(scheme, between, other)
    return behind


def is_clash(scheme, one, other, value):
    """Tell for any value whether it is a clash of two changes."""
    if not is_tuple_of(value, 4):
        return False
    database, values, first, second = value
    if not all([is_database(scheme, tables) for tables in (database, first, second)]) or first == second:
        return False
    if max([len(database[change[1]]) for change in (one, other)]) > MOST_ROWS_TO_CHANGE:
        return False
    plain = _made_plain_both(scheme, one, other, values)
    return plain is not None and (first, second) == _both_orders(scheme, database, plain)


def is_peace(scheme, one, other, value):
    """Tell for any value whether it is a list with a cycle for each system of two changes."""
    systems = clash_systems(scheme, one, other)
    if not isinstance(value, list) or len(value) != len(systems):
        return False
    return all([is_cycle(system, cycle) for system, cycle in zip(systems, value)])
