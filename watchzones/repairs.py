"""Repairs: what a plain change adds to an answer and takes away from it."""

from watchzones.databases import carried_out, row_with_key
from watchzones.queries import outputs_of, ways_among


def effects(scheme, query, database, change):
    """Return the ascending lists of the outputs that a plain change gains, and that it loses."""
    behind, hindrance = carried_out(scheme, database, change)
    if hindrance is not None:
        return ([], [])
    word, table, _, _ = change
    row = changed_row(scheme, database, change)
    if word == "insert":
        return (_outputs_with_row(query, behind, table, row), [])
    return ([], _outputs_with_row(query, database, table, row))


def changed_row(scheme, database, change):
    """Return the row that a plain change, which takes effect, puts into a database or takes out of it."""
    word, table, values, _ = change
    return values if word == "insert" else row_with_key(scheme, database, table, values)


def _outputs_with_row(query, database, table, row):
    """Return the ascending list of the outputs of all ways in which a part of this table takes this row."""
    found = []
    for p, (own, _) in enumerate(query[0]):
        if own == table:
            found.extend(ways_among(query, _candidates(query, database, p, row)))
    return outputs_of(query, found)


def _candidates(query, database, first, row):
    """Return the candidates of each part for ways in which the part number first is the first one that has a row."""
    table = query[0][first][0]
    # Each way is found at one part only, so parts ahead of this one do not take the row.
    others = [another for another in database[table] if another != row]
    ahead = [others if own == table else database[own] for own, _ in query[0][:first]]
    return [*ahead, [row], *[database[own] for own, _ in query[0][first + 1:]]]


def repaired(rows, gained, lost):
    """Return the ascending list of these outputs without the lost ones and with the gained ones."""
    left = {}
    for output in lost:
        left[output] = left.get(output, 0) + 1
    kept = []
    for output in rows:
        if left.get(output, 0) > 0:
            left[output] -= 1
        else:
            kept.append(output)
    return sorted([*kept, *gained])
