"""Databases of a scheme, and the changes of their tables."""

from watchzones.basics import all_hold, are_integers, is_constraint, is_tuple_of, lies_between, picked

PARAMETERS = ("a", "b", "c", "d")


def is_database(scheme, value):
    """Tell for any value whether it is a database of a scheme."""
    if not is_tuple_of(value, len(scheme)):
        return False
    if not all([_are_rows(table, rows) for table, rows in zip(scheme, value)]):
        return False
    numbered = [(number, row) for number, rows in enumerate(value) for row in rows]
    return all([unmet_reference(scheme, value, number, row) is None for number, row in numbered])


def _are_rows(table, value):
    if not isinstance(value, tuple) or len(value) > 30:
        return False
    if not all([_is_row(table, row) for row in value]):
        return False
    keys = [picked(row, table[1]) for row in value]
    return list(value) == sorted(value) and len(set(keys)) == len(keys)


def _is_row(table, value):
    columns = table[0]
    if not is_tuple_of(value, len(columns)):
        return False
    return all([lies_between(number, low, high) for number, (low, high) in zip(value, columns)])


def row_with_key(scheme, database, table, key):
    """Return the row of a table that has this key, or None."""
    for row in database[table]:
        if picked(row, scheme[table][1]) == key:
            return row
    return None


def unmet_reference(scheme, database, table, row):
    """Return the number of the first reference of a row of this table that is not met, or None."""
    for i, (columns, referred) in enumerate(scheme[table][2]):
        if row_with_key(scheme, database, referred, picked(row, columns)) is None:
            return i
    return None


def value_columns(scheme, word, table):
    """Return the columns in whose places the values of a change of this table stand."""
    columns, key, _ = scheme[table]
    return list(range(len(columns))) if word == "insert" else list(key)


def parameters_of(values):
    """Return the ascending list of the different parameters among the values of a change."""
    return sorted(set([value for value in values if isinstance(value, str)]))


def is_change(scheme, value):
    """Tell for any value whether it is a change of a scheme."""
    if not is_tuple_of(value, 4):
        return False
    word, table, values, conditions = value
    if word not in ("insert", "delete") or not lies_between(table, 0, len(scheme) - 1):
        return False
    columns = value_columns(scheme, word, table)
    if not is_tuple_of(values, len(columns)) or not isinstance(conditions, tuple) or len(conditions) > 6:
        return False
    if not all([_is_value(item, bounds) for item, bounds in zip(values, picked(scheme[table][0], columns))]):
        return False
    names = parameters_of(values)
    return all([is_constraint(condition, names) for condition in conditions])


def _is_value(value, bounds):
    low, high = bounds
    return value in PARAMETERS or lies_between(value, low, high)


def made_plain(scheme, change, values):
    """Return the plain change that values, which may be anything, make of a change, or None."""
    word, table, places, conditions = change
    names = parameters_of(places)
    if not is_tuple_of(values, len(names)) or not are_integers(values):
        return None
    known = dict(zip(names, values))
    numbers = tuple([known.get(place, place) for place in places])
    bounds = picked(scheme[table][0], value_columns(scheme, word, table))
    if not all([low <= number <= high for number, (low, high) in zip(numbers, bounds)]):
        return None
    if not all_hold(conditions, known):
        return None
    return (word, table, numbers, ())


def carried_out(scheme, database, change):
    """Return the database behind a plain change and None, or the same database and what hinders the change."""
    word, table, values, _ = change
    if word == "insert":
        hindrance = _insertion_hindrance(scheme, database, table, values)
        rows = tuple(sorted([*database[table], values]))
    else:
        hindrance = _deletion_hindrance(scheme, database, table, values)
        rows = tuple([row for row in database[table] if picked(row, scheme[table][1]) != values])
    if hindrance is not None:
        return (database, hindrance)
    return (with_rows(database, table, rows), None)


def with_rows(database, table, rows):
    """Return the database with other rows in one table."""
    return database[:table] + (rows,) + database[table + 1:]


def _insertion_hindrance(scheme, database, table, row):
    known = row_with_key(scheme, database, table, picked(row, scheme[table][1]))
    if known is not None:
        return ("key", known)
    reference = unmet_reference(scheme, database, table, row)
    return None if reference is None else ("reference", reference)


def _deletion_hindrance(scheme, database, table, key):
    if row_with_key(scheme, database, table, key) is None:
        return ("missing",)
    for number, rows in enumerate(database):
        for row in rows:
            if _refers(scheme, number, row, table, key):
                return ("referred", number, row)
    return None


def _refers(scheme, number, row, table, key):
    return any([referred == table and picked(row, columns) == key for columns, referred in scheme[number][2]])


def completed(scheme, tables):
    """Return the database of lists of rows, equal ones once, and of rows put in to which they refer."""
    found = [{picked(row, table[1]): row for row in rows} for table, rows in zip(scheme, tables)]
    for number, (_, _, references) in enumerate(scheme):
        for row in list(found[number].values()):
            for columns, referred in references:
                key = picked(row, columns)
                found[referred].setdefault(key, _least_row(scheme[referred], key))
    return tuple([tuple(sorted(list(rows.values()))) for rows in found])


def _least_row(table, key):
    numbers = dict(zip(table[1], key))
    return tuple([numbers.get(j, low) for j, (low, _) in enumerate(table[0])])
