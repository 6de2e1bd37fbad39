"""What the document says of changes and cases, found by trying everything; for very small schemes."""

import itertools

from watchzones.databases import carried_out, made_plain
from watchzones.queries import answer, ways


def all_rows(columns):
    return list(itertools.product(*[range(low, high + 1) for low, high in columns]))


def all_tables(table):
    """All tuples of rows with different keys."""
    columns, key, _ = table
    by_key = {}
    for row in all_rows(columns):
        by_key.setdefault(tuple(row[k] for k in key), []).append(row)
    for chosen in itertools.product(*[[None, *rows] for rows in by_key.values()]):
        yield tuple(sorted(row for row in chosen if row is not None))


def all_databases(scheme):
    for database in itertools.product(*[list(all_tables(table)) for table in scheme]):
        if all(is_met(scheme, database, reference, row)
               for (_, _, references), rows in zip(scheme, database) for reference in references for row in rows):
            yield database


def is_met(scheme, database, reference, row):
    columns, referred = reference
    key = scheme[referred][1]
    return any(tuple(other[k] for k in key) == tuple(row[j] for j in columns) for other in database[referred])


def within(zone, other):
    return all(x <= y for row, other_row in zip(zone, other) for x, y in zip(row, other_row))


def check_zones(test, found, many):
    """Zones are ascending, each once, none within another one, of the right size, tight."""
    test.assertIs(type(found), list)
    test.assertEqual(found, sorted(set(found)))
    for zone in found:
        test.assertEqual([len(row) for row in zone], [many + 1] * (many + 1))
        test.assertEqual([zone[i][i] for i in range(many + 1)], [0] * (many + 1))
        test.assertEqual([other for other in found if other != zone and within(zone, other)], [])
        for i, j, k in itertools.product(range(many + 1), repeat=3):
            test.assertLessEqual(zone[i][k], zone[i][j] + zone[j][k])


def all_values(scheme, change):
    word, table, values, _ = change
    names = sorted({value for value in values if isinstance(value, str)})
    low = min(low for low, _ in scheme[table][0])
    high = max(high for _, high in scheme[table][0])
    return itertools.product(range(low, high + 1), repeat=len(names))


def clashing(scheme, databases, one, other):
    """The values with which the order of two changes matters on one of these databases."""
    names = sorted({value for value in one[2] + other[2] if isinstance(value, str)})
    bounds = [bound for change in (one, other) for bounds in scheme[change[1]][0] for bound in bounds]
    found = set()
    for values in itertools.product(range(min(bounds), max(bounds) + 1), repeat=len(names)):
        known = dict(zip(names, values))
        plain = [made_plain(scheme, change, tuple(
            known[name] for name in sorted({value for value in change[2] if isinstance(value, str)})))
            for change in (one, other)]
        if None not in plain and any(
                in_order(scheme, database, plain) != in_order(scheme, database, plain[::-1])
                for database in databases):
            found.add(values)
    return found


def in_order(scheme, database, changes):
    """The database behind these plain changes, one after the other."""
    for change in changes:
        database = carried_out(scheme, database, change)[0]
    return database


def altering(scheme, query, databases, change):
    """The values with which a change alters the answer on one of these databases."""
    found = set()
    for values in all_values(scheme, change):
        plain = made_plain(scheme, change, values)
        if plain is not None and any(
                answer(scheme, query, database) != answer(scheme, query, carried_out(scheme, database, plain)[0])
                for database in databases):
            found.add(values)
    return found


def has_case(scheme, query, table, case, rows, changed):
    """Tell from the words of [9] whether a way, in which a row changed, belongs to a case."""
    parts = query[0]
    taken, splits = case
    if [p for p in range(len(parts)) if rows[p] == changed and parts[p][0] == table] != list(taken):
        return False
    splits = list(splits)
    outside = [p for p in range(len(parts)) if p not in taken]
    for p, q in itertools.combinations(outside, 2):
        if parts[p][0] == parts[q][0]:
            key = scheme[parts[p][0]][1]
            split = splits.pop(0)
            if split == 0:
                if rows[p] != rows[q]:
                    return False
            elif not has_split(split, [rows[p][k] for k in key], [rows[q][k] for k in key]):
                return False
    for p in outside:
        if parts[p][0] == table:
            key = scheme[table][1]
            if not has_split(splits.pop(0), [rows[p][k] for k in key], [changed[k] for k in key]):
                return False
    for p in outside:
        for columns, referred in scheme[parts[p][0]][2]:
            if referred == table:
                key = scheme[table][1]
                if not has_split(splits.pop(0), [rows[p][k] for k in columns], [changed[k] for k in key]):
                    return False
    return splits == []


def has_split(split, left, right):
    i = (split - 1) // 2
    return left[i] < right[i] if split % 2 == 1 else left[i] > right[i]


def changed_ways(scheme, query, database, plain):
    """The ways with the changed row, each as (rows, changed row)."""
    word, table, values, _ = plain
    behind, hindrance = carried_out(scheme, database, plain)
    if hindrance is not None:
        return []
    larger = behind if word == "insert" else database
    smaller = database if word == "insert" else behind
    (row,) = set(larger[table]) - set(smaller[table])
    return [(found, row) for found in ways(scheme, query, larger)
            if any(part == row and query[0][p][0] == table for p, part in enumerate(found))]
