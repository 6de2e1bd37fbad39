"""Guards: the values of a change's parameters with which it can alter a query."""

from watchzones.cases import cases, constraints_of_case, parameter_node
from watchzones.databases import parameters_of
from watchzones.zones import lies_in, zones_of


def guard(scheme, query, change):
    """Return the zones of the parameters of a change in the cases of a query with the change."""
    found = cases(scheme, query, change[1])
    systems = [list(constraints_of_case(scheme, query, change, case).values()) for case in found]
    return zones_of(systems, [parameter_node(name) for name in parameters_of(change[2])])


def passes(some, values):
    """Tell whether a tuple of values lies in one of some zones."""
    return any([lies_in(zone, values) for zone in some])
