"""The search for a tree, which goes through the choices of a case until each branch ends in a cycle."""

from watchzones.basics import copied
from watchzones.systems import least_sums, nodes_of, tightest


def explored(known, options):
    """Return ('tree', a tree) or, if there is none, ('open', a solution in which each choice has a broken claim).

    known is a dict from reasons to constraints, which have a solution; options is a dict from each choice to the list
    of its broken claims.
    """
    system = list(known.values())
    sums = {node: least_sums(system, node)[0] for node in [None, *nodes_of(system)]}
    return _explored(list(known), system, sums, options, 0)


def _explored(names, system, sums, options, depth):
    """Explore behind a path of so many choices.

    system has the constraints of the case and of the path, names their reasons, sums for each two nodes the least sum
    of a chain.
    """
    unbroken = [choice for choice in options if not _is_broken(sums, options[choice])]
    if unbroken == []:
        return ("open", {node: row[None] for node, row in sums.items() if node is not None})
    # Where the fewest claims can be broken, the tree has the fewest branches.
    _, chosen = min([(_count_possible(sums, options[choice]), choice) for choice in unbroken])
    tree = [("choice", chosen)]
    found = {}
    for constraint in options[chosen]:
        if constraint in found:
            tree.extend(copied(found[constraint]))
            continue
        if not _is_possible(sums, constraint):
            word, told = ("tree", [("bar", _bar(names, system, constraint, depth))])
        else:
            word, told = _explored([*names, ("broken", depth)], [*system, constraint], _tightened(sums, constraint),
                                   options, depth + 1)
        if word == "open":
            return (word, told)
        found[constraint] = told
        tree.extend(told)
    return ("tree", tree)


def _is_broken(sums, constraints):
    """Tell whether one of these constraints holds where each node has the greatest number that it can have."""
    for x, y, c in constraints:
        if sums[x][None] - sums[y][None] <= c:
            return True
    return False


def _count_possible(sums, constraints):
    return len(set([constraint for constraint in constraints if _is_possible(sums, constraint)]))


def _is_possible(sums, constraint):
    """Tell whether a solution meets this constraint, too."""
    x, y, c = constraint
    return sums[y][x] + c >= 0


def _tightened(sums, constraint):
    """Return the least sums when there is this constraint, too, which a solution meets."""
    x, y, c = constraint
    behind = sums[y]
    found = {}
    for node, row in sums.items():
        ahead = row[x] + c
        if ahead < row[y]:
            found[node] = {other: min(n, ahead + behind[other]) for other, n in row.items()}
        else:
            found[node] = row
    return found


def _bar(names, system, constraint, depth):
    """Return the reasons of a cycle that begins with a constraint which no solution of the system meets."""
    x, y, _ = constraint
    chain = [] if x == y else tightest(system, y, x)[1]
    return [("broken", depth)] + [names[i] for i in chain]
