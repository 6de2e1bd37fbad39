"""Schemes: tables with their columns, keys and references."""

from watchzones.basics import is_tuple_of, lies_between, picked

GREATEST_BOUND = 1000000


def is_scheme(value):
    """Tell for any value whether it is a scheme."""
    if not isinstance(value, tuple) or not 1 <= len(value) <= 4:
        return False
    for number, table in enumerate(value):
        # A table is checked only when those before it are right: its references are looked up in them.
        if not _is_table(table, value[:number]):
            return False
    return True


def _is_table(value, earlier):
    if not is_tuple_of(value, 3):
        return False
    columns, key, references = value
    if not _are_columns(columns) or not _is_key(key, len(columns)):
        return False
    if not isinstance(references, tuple) or len(references) > 2:
        return False
    return all([_is_reference(reference, columns, earlier) for reference in references])


def _are_columns(value):
    if not isinstance(value, tuple) or not 1 <= len(value) <= 4:
        return False
    return all([_are_bounds(bounds) for bounds in value])


def _are_bounds(value):
    if not is_tuple_of(value, 2):
        return False
    if not all([lies_between(bound, -GREATEST_BOUND, GREATEST_BOUND) for bound in value]):
        return False
    return value[0] <= value[1]


def _is_key(value, many):
    if not isinstance(value, tuple) or not 1 <= len(value) <= 2:
        return False
    return _are_different_columns(value, many) and list(value) == sorted(value)


def _are_different_columns(value, many):
    if not all([lies_between(column, 0, many - 1) for column in value]):
        return False
    return len(set(value)) == len(value)


def _is_reference(value, columns, earlier):
    if not is_tuple_of(value, 2):
        return False
    own, number = value
    if not lies_between(number, 0, len(earlier) - 1):
        return False
    referred_columns, key, references = earlier[number]
    if references != () or not is_tuple_of(own, len(key)):
        return False
    if not _are_different_columns(own, len(columns)):
        return False
    pairs = list(zip(picked(columns, own), picked(referred_columns, key)))
    return all([low <= own_low and own_high <= high for (own_low, own_high), (low, high) in pairs])
