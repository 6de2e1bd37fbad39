"""Systems of constraints x - y <= c between nodes, their solutions, chains and cycles."""

from watchzones.basics import all_hold, are_integers, lies_between


def nodes_of(system):
    """Return the ascending list of the integer nodes that occur in a system."""
    return sorted(set([node for x, y, _ in system for node in (x, y) if node is not None]))


def solved(system):
    """Return ('solution', a solution) or, if there is none, ('cycle', a cycle with no node in front twice)."""
    nodes = nodes_of(system)
    # A chain of no constraint leads to each node, so no sum is above 0.
    sums = {node: 0 for node in [None, *nodes]}
    last = {}
    for _ in range(len(sums)):
        lowered = _lower(system, sums, last)
        if lowered is None:
            return ("solution", {node: sums[None] - sums[node] for node in nodes})
    return ("cycle", _cycle_behind(system, last, lowered))


def _lower(system, sums, last):
    """Lower each sum of a chain that one more constraint makes less, once; return the last such constraint or None.

    sums has for nodes the sum of a chain that ends there, last the last constraint of this chain.
    """
    latest = None
    for i, (x, y, c) in enumerate(system):
        if x in sums and (y not in sums or sums[x] + c < sums[y]):
            sums[y] = sums[x] + c
            last[y] = i
            latest = i
    return latest


def _cycle_behind(system, last, lowered):
    # A sum that still falls after as many passes as there are nodes belongs to a chain that has run into a cycle,
    # and that many steps back from its end lead into it.
    node = system[lowered][1]
    for _ in range(len(last)):
        node = system[last[node]][0]
    return _chain_back(system, last, node, node)


def _chain_back(system, last, start, end):
    """Return the chain of one or more constraints from start to end that last tells from its end."""
    chain = [last[end]]
    while system[chain[-1]][0] != start:
        chain.append(last[system[chain[-1]][0]])
    return chain[::-1]


def is_solution(system, value):
    """Tell for any value whether it is a solution of a system."""
    if not isinstance(value, dict):
        return False
    nodes = nodes_of(system)
    if len(value) != len(nodes) or not are_integers(list(value)) or not are_integers(list(value.values())):
        return False
    return all([node in value for node in nodes]) and all_hold(system, value)


def is_cycle(system, value):
    """Tell for any value whether it is a cycle of a system."""
    if not isinstance(value, list) or not all([lies_between(i, 0, len(system) - 1) for i in value]):
        return False
    return form_cycle([system[i] for i in value])


def form_cycle(constraints):
    """Tell whether these constraints, one after the other, lead back to the first node with a sum below 0."""
    fronts = [x for x, _, _ in constraints]
    behind = [y for _, y, _ in constraints]
    return fronts[1:] + fronts[:1] == behind and sum([c for _, _, c in constraints]) < 0


def least_sums(system, start):
    """Return, for a system with a solution, (sums, last) of the least chains from a node.

    sums has the least sum of a chain to each node that one leads to, and 0 for the node itself; last has the last
    constraint of such a chain.
    """
    sums = {start: 0}
    last = {}
    lowered = 0
    while lowered is not None:
        lowered = _lower(system, sums, last)
    return (sums, last)


def tightest(system, x, y):
    """Return (the least sum of a chain from x to y, such a chain with no node in front twice), or None."""
    sums, last = least_sums(system, x)
    if y not in sums:
        return None
    return (sums[y], _chain_back(system, last, x, y))
