"""Trees: refutations of a case in which each choice of other rows is met by breaking one of its claims."""

from watchzones.basics import all_hold, are_integers, is_tuple_of
from watchzones.cases import constraints_of_case
from watchzones.choices import broken, choices_of, claims
from watchzones.decisions import is_bar, solved_or_barred
from watchzones.systems import is_solution
from watchzones.treesearch import explored
from watchzones.widening import widened


def find_tree(scheme, query, change, wanted, case):
    """Return ('tree', a tree of a case) or, if there is none, ('open', a solution with which the case is open)."""
    known = _constraints_of(scheme, query, change, wanted, case)
    word, found = solved_or_barred(known)
    if word == "bar":
        return ("tree", [("bar", found)])
    return explored(known, _options_of(scheme, query, change, case))


def is_tree(scheme, query, change, wanted, case, value):
    """Tell for any value whether it is a tree of a case."""
    if not isinstance(value, list):
        return False
    options = _options_of(scheme, query, change, case)
    # For each tree that is still to come, the last one first: the reasons with their constraints, and the path.
    awaited = [(_constraints_of(scheme, query, change, wanted, case), ())]
    for node in value:
        if awaited == [] or not is_tuple_of(node, 2):
            return False
        known, path = awaited.pop()
        word, told = node
        if word == "choice" and _is_choice(told) and told in options and told not in path:
            behind = [{**known, ("broken", len(path)): constraint} for constraint in options[told]]
            awaited.extend([(reasons, (*path, told)) for reasons in reversed(behind)])
        elif word != "bar" or not is_bar(known, told):
            return False
    return awaited == []


def _is_choice(value):
    return isinstance(value, tuple) and are_integers(value)


def is_open(scheme, query, change, wanted, case, value):
    """Tell for any value whether it is a solution with which a case is open."""
    known = _constraints_of(scheme, query, change, wanted, case)
    if not is_solution(list(known.values()), value):
        return False
    options = _options_of(scheme, query, change, case)
    return all([_meets_one(value, constraints) for constraints in options.values()])


def _meets_one(solution, constraints):
    return any([all_hold([constraint], solution) for constraint in constraints])


def _constraints_of(scheme, query, change, wanted, case):
    """Return a dict from each reason of a case of the wide query, but the broken claims, to its constraint."""
    known = constraints_of_case(scheme, widened(scheme, query), change, case)
    if wanted is not None:
        for k, (variable, number) in enumerate(zip(query[2], wanted)):
            known[("wanted", k, 0)] = (variable, None, number)
            known[("wanted", k, 1)] = (None, variable, -number)
    return known


def _options_of(scheme, query, change, case):
    """Return a dict from each choice of a case to the list of its broken claims."""
    found = choices_of(scheme, query, change[1], case)
    return {choice: [broken(claim) for claim in claims(scheme, query, choice)] for choice in found}
