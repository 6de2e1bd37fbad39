"""Choices: which rows of a case, the changed one left out, the parts of a query could take instead."""

from watchzones.cases import split_places
from watchzones.widening import widened


def standing(scheme, query, table, case):
    """Return the ascending tuple of the parts that stand in a case of the wide query."""
    wide = widened(scheme, query)
    taken, splits = case
    # Only the split of two parts may be 0.
    repeated = [place[2] for place, split in zip(split_places(scheme, wide, table, taken), splits) if split == 0]
    return tuple([p for p in range(len(wide[0])) if p not in taken and p not in repeated])


def choices_of(scheme, query, table, case):
    """Return the ascending list of the choices of a case of the wide query."""
    parts = widened(scheme, query)[0]
    stands = standing(scheme, query, table, case)
    found = [()]
    for own, _ in query[0]:
        fitting = [p for p in stands if parts[p][0] == own]
        found = [(*choice, p) for choice in found for p in fitting]
    return found


def claims(scheme, query, choice):
    """Return the list of the constraints that together say that a choice is a way with the same output."""
    nodes = _nodes_by(widened(scheme, query)[0], query, choice)
    found = []
    for variable in sorted(list(nodes)):
        for node in nodes[variable][1:]:
            found.extend(_equal(node, nodes[variable][0]))
    firsts = {variable: nodes[variable][0] for variable in nodes}
    for x, y, c in query[1]:
        found.append((firsts.get(x), firsts.get(y), c))
    for variable in query[2]:
        found.extend(_equal(firsts[variable], variable))
    return found


def _nodes_by(wide_parts, query, choice):
    """Return a dict from each variable of a query to the nodes of its places by a choice, in their order."""
    nodes = {}
    for (_, variables), p in zip(query[0], choice):
        for variable, node in zip(variables, wide_parts[p][1]):
            nodes.setdefault(variable, []).append(node)
    return nodes


def _equal(one, other):
    return [(one, other, 0), (other, one, 0)]


def broken(claim):
    """Return the constraint that holds just where a claim does not."""
    x, y, c = claim
    return (y, x, -c - 1)
