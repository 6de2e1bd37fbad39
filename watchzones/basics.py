"""What several modules need to know about values, rows and constraints."""

GREATEST_DIFFERENCE = 4000000


def is_integer(value):
    """Tell for any value whether it is an int that is not a bool."""
    return isinstance(value, int) and not isinstance(value, bool)


def lies_between(value, low, high):
    """Tell for any value whether it is an integer from low to high."""
    return is_integer(value) and low <= value <= high


def is_tuple_of(value, many):
    """Tell for any value whether it is a tuple of so many items."""
    return isinstance(value, tuple) and len(value) == many


def is_worded(value):
    """Tell for any value whether it is a tuple with a string in front."""
    return isinstance(value, tuple) and value != () and isinstance(value[0], str)


def are_integers(values):
    """Tell for a tuple or list of any values whether all of them are integers."""
    return all([is_integer(value) for value in values])


def is_constraint(value, names):
    """Tell for any value whether it is a constraint (x, y, c) between two different ones of names and None."""
    if not is_tuple_of(value, 3):
        return False
    x, y, c = value
    if not _is_side(x, names) or not _is_side(y, names) or x == y:
        return False
    return lies_between(c, -GREATEST_DIFFERENCE, GREATEST_DIFFERENCE)


def _is_side(value, names):
    # A bool is equal to the variable 0 or 1 without being it.
    return value is None or (not isinstance(value, bool) and value in names)


def all_hold(constraints, known):
    """Tell whether x - y <= c for all constraints, in which known has each name, and None counts 0."""
    sides = {**known, None: 0}
    for x, y, c in constraints:
        if sides[x] - sides[y] > c:
            return False
    return True


def picked(row, columns):
    """Return the tuple of the row's values in these columns, in their order."""
    return tuple([row[column] for column in columns])


def copied(value):
    """Return a copy of any value that shares no list and no dict with it."""
    if isinstance(value, list):
        return [copied(item) for item in value]
    if isinstance(value, tuple):
        return tuple([copied(item) for item in value])
    if isinstance(value, dict):
        return {key: copied(item) for key, item in value.items()}
    return value
