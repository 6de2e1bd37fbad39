"""Zones: the sets of rows, or of keys, that a query has to watch."""

from watchzones.cases import ROW_NODE, cases, constraints_of_case
from watchzones.systems import least_sums, solved


def zones(scheme, query, table):
    """Return the zones of the changed row's columns in the cases of a query and a table."""
    return _zones_for(scheme, query, table, list(range(len(scheme[table][0]))))


def key_zones(scheme, query, table):
    """Return the zones of the columns of the changed row's key in the cases of a query and a table."""
    return _zones_for(scheme, query, table, list(scheme[table][1]))


def _zones_for(scheme, query, table, columns):
    found = cases(scheme, query, table)
    systems = [list(constraints_of_case(scheme, query, None, case).values()) for case in found]
    return zones_of(systems, [ROW_NODE + column for column in columns])


def zones_of(systems, nodes):
    """Return the zones of several systems for some nodes, which all of them bound on both sides."""
    found = [_zone_of(system, nodes) for system in systems if solved(system)[0] == "solution"]
    different = sorted(set(found))
    return [zone for zone in different if not _lies_in_another(zone, different)]


def _zone_of(system, nodes):
    sides = [*nodes, None]
    rows = []
    for node in sides:
        sums, _ = least_sums(system, node)
        rows.append(tuple([sums[other] for other in sides]))
    return tuple(rows)


def _lies_in_another(zone, found):
    for other in found:
        if other != zone and _lies_within(zone, other):
            return True
    return False


def _lies_within(zone, other):
    for row, other_row in zip(zone, other):
        for difference, other_difference in zip(row, other_row):
            if difference > other_difference:
                return False
    return True


def lies_in(zone, numbers):
    """Tell whether a tuple of numbers lies in a zone."""
    sides = (*numbers, 0)
    for x, row in zip(sides, zone):
        for y, greatest in zip(sides, row):
            if x - y > greatest:
                return False
    return True


def hit(scheme, query, table, row):
    """Return the ascending list of the numbers of the zones in which a row lies."""
    return [i for i, zone in enumerate(zones(scheme, query, table)) if lies_in(zone, row)]
