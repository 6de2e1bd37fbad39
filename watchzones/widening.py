"""Wide queries, in which a part stands for each reference to a table of which the query has a part."""

from watchzones.basics import picked
from watchzones.queries import GREATEST_VARIABLE, MOST_PARTS
from watchzones.watchererrors import TooWide


def is_wide(scheme, query):
    """Tell whether a query is wide."""
    return _wide_parts(scheme, query) == query[0]


def widened(scheme, query):
    """Return the wide query of a query."""
    parts = _wide_parts(scheme, query)
    if len(parts) > MOST_PARTS or max(_variables_of(parts)) > GREATEST_VARIABLE:
        raise TooWide(query)
    return (parts, query[1], query[2])


def _wide_parts(scheme, query):
    """Return the parts of a query and those that are appended to make it wide."""
    parts = query[0]
    tables = [table for table, _ in parts]
    # Appended parts need no others: a table that is referred to has no references itself.
    for table, variables in query[0]:
        for columns, referred in scheme[table][2]:
            needed = picked(variables, columns)
            if referred in tables and not _has_part(scheme, parts, referred, needed):
                parts = (*parts, _new_part(scheme, parts, referred, needed))
    return parts


def _has_part(scheme, parts, table, needed):
    """Tell whether a part of this table has the needed variables in the columns of its key."""
    key = scheme[table][1]
    return needed in [picked(variables, key) for own, variables in parts if own == table]


def _new_part(scheme, parts, table, needed):
    columns, key, _ = scheme[table]
    placed = dict(zip(key, needed))
    used = _variables_of(parts)
    for j in range(len(columns)):
        if j not in placed:
            placed[j] = min([n for n in range(len(used) + 1) if n not in used])
            used.append(placed[j])
    return (table, tuple([placed[j] for j in range(len(columns))]))


def _variables_of(parts):
    return [variable for _, variables in parts for variable in variables]
