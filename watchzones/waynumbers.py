"""Sets and numbers of queries: which outputs there are, and how many ways have each of them."""

from watchzones.queries import answer


def set_answer(scheme, query, database):
    """Return the ascending list of the different outputs of a query in a database."""
    return sorted(set(answer(scheme, query, database)))


def numbers_of(scheme, query, database):
    """Return a dict from each output of a query in a database to the number of ways that have it."""
    numbers = {}
    for output in answer(scheme, query, database):
        numbers[output] = numbers.get(output, 0) + 1
    return numbers


def moved(known, gained, lost):
    """Return the numbers behind a change, and the ascending lists of the outputs that it brought and took."""
    numbers = {output: number for output, number in known.items()}
    for output in gained:
        numbers[output] = numbers.get(output, 0) + 1
    for output in lost:
        numbers[output] -= 1
    behind = {output: number for output, number in numbers.items() if number > 0}
    brought = sorted([output for output in behind if output not in known])
    taken = sorted([output for output in known if output not in behind])
    return (behind, brought, taken)
