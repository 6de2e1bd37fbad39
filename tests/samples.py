"""Values that several tests use."""

import random

SCHEME = ((((0, 99), (0, 9)), (0,), ()), (((0, 999), (0, 99), (0, 1000)), (0,), (((1,), 0),)))
BIG = (((1, (0, 1, 2)), (0, (1, 3))), ((None, 2, -500), (None, 3, -5)), (0,))
DATA = (((3, 5),), ((5, 3, 600),))

# A table with a key of two columns, one that refers to it twice, one that refers to two tables, one beside them.
WIDE = (
    (((0, 3), (-2, 2), (0, 1)), (0, 1), ()),
    (((0, 5),), (0,), ()),
    (((0, 3), (0, 2), (1, 3), (0, 2)), (0,), (((0, 1), 0), ((2, 3), 0))),
    (((0, 9), (0, 1), (0, 2), (1, 4)), (0, 3), (((1, 2), 0), ((3,), 1))),
)

OTHERS = [
    None, True, False, 0, 1, 2, -1, 16, 10 ** 30, -10 ** 30, "", "a", "b", "e", "aa", "insert", "delete", "low",
    (), [], {}, (0,), (1,), [0], {0: 0}, {"a": 1}, {None: None}, ((),), ([],), ({},), ("a",), (None,), (True,),
    (0, 1), [0, 1], (0, 1, 2), (None, None, None), ("insert", 0), {(0, 1): [1, {2: (3,)}]}, ((((((((((((),),),),),),),),),),),),
    "x" * 200, [[[[]]]], (0, 0, 0, 0), ((0, 0), (0, 0)), {True: 0}, {1: True},
]


def replaced_by_others(value):
    """Yield value with each place in it, one at a time, replaced by each of OTHERS, but by no same value."""
    for other in OTHERS:
        if not same(other, value):
            yield other
    if isinstance(value, (tuple, list)):
        for i, item in enumerate(value):
            for changed in replaced_by_others(item):
                yield type(value)([*value[:i], changed, *value[i + 1:]])


def misshapen(value):
    """Yield value with one place of another kind or length: lists for tuples, truths for 0 and 1, an item more or less."""
    if isinstance(value, bool):
        return
    if value == 0 or value == 1:
        yield bool(value)
    if isinstance(value, (tuple, list)):
        yield list(value) if isinstance(value, tuple) else tuple(value)
        for i, item in enumerate(value):
            for changed in misshapen(item):
                yield type(value)([*value[:i], changed, *value[i + 1:]])


def same(one, other):
    """Tell whether two values are equal and of the same kinds throughout."""
    if type(one) is not type(other):
        return False
    if isinstance(one, (tuple, list)):
        return len(one) == len(other) and all(same(x, y) for x, y in zip(one, other))
    if isinstance(one, dict):
        return same(list(one), list(other)) and all(same(one[key], other[key]) for key in one)
    return one == other


def random_scheme(dice, tables=3, width=3, span=2):
    """Return a scheme of small tables; half of the later ones refer to earlier ones."""
    scheme = ()
    for _ in range(dice.randint(1, tables)):
        columns = []
        for _ in range(dice.randint(1, width)):
            low = dice.randint(-1, 1)
            columns.append((low, low + dice.randint(0, span)))
        key = tuple(sorted(dice.sample(range(len(columns)), dice.randint(1, min(2, len(columns))))))
        references = tuple(random_references(dice, scheme, columns))
        scheme += ((tuple(columns), key, references),)
    return scheme


def random_references(dice, scheme, columns):
    targets = [number for number, table in enumerate(scheme) if not table[2]]
    found = []
    for number in targets * 2:
        other, key, _ = scheme[number]
        if len(key) > len(columns) or dice.random() < 0.4 or len(found) == 2:
            continue
        own = dice.sample(range(len(columns)), len(key))
        inside = [other[k][0] <= columns[j][0] and columns[j][1] <= other[k][1] for j, k in zip(own, key)]
        if all(inside):
            found.append((tuple(own), number))
    return found


def random_query(dice, scheme, parts=3, variables=5):
    chosen = []
    for _ in range(dice.randint(1, parts)):
        table = dice.randrange(len(scheme))
        chosen.append((table, tuple(dice.randrange(variables) for _ in scheme[table][0])))
    names = sorted({variable for _, inner in chosen for variable in inner})
    constraints = []
    for _ in range(dice.randint(0, 3)):
        x, y = dice.sample([None, *names], 2)
        constraints.append((x, y, dice.randint(-3, 2)))
    output = tuple(dice.choice(names) for _ in range(dice.randint(0, 3)))
    return (tuple(chosen), tuple(constraints), output)


def random_change(dice, scheme, plain=False):
    word = dice.choice(("insert", "delete"))
    table = dice.randrange(len(scheme))
    columns, key, _ = scheme[table]
    places = range(len(columns)) if word == "insert" else key
    values = tuple(
        dice.randint(*columns[j]) if plain or dice.random() < 0.5 else dice.choice("abd") for j in places)
    names = sorted({value for value in values if isinstance(value, str)})
    conditions = ()
    if names:
        pairs = [dice.sample([None, *names], 2) for _ in range(dice.randint(0, 2))]
        conditions = tuple((x, y, dice.randint(-2, 2)) for x, y in pairs)
    return (word, table, values, conditions)


def random_database(dice, scheme, most=4):
    """Return a database whose rows refer to rows that are there."""
    tables = []
    for columns, key, references in scheme:
        rows = {}
        for _ in range(dice.randint(0, most)):
            row = [dice.randint(*bounds) for bounds in columns]
            for own, referred in references:
                if tables[referred]:
                    target = dice.choice(tables[referred])
                    for j, k in zip(own, scheme[referred][1]):
                        row[j] = target[k]
            if all(is_there(scheme, tables, row, reference) and within(row, columns) for reference in references):
                rows[tuple(row[k] for k in key)] = tuple(row)
        tables.append(tuple(sorted(rows.values())))
    return tuple(tables)


def is_there(scheme, tables, row, reference):
    own, referred = reference
    wanted = tuple(row[j] for j in own)
    return any(tuple(other[k] for k in scheme[referred][1]) == wanted for other in tables[referred])


def within(row, columns):
    return all(low <= number <= high for number, (low, high) in zip(row, columns))


def dice(seed):
    return random.Random(seed)


# A table with a key of two columns, one that refers to it with two columns in another order, one that refers to it twice.
CROSSED = (
    (((0, 1), (0, 1)), (0, 1), ()),
    (((0, 1), (0, 1), (0, 1)), (0,), (((2, 1), 0),)),
)
TWICE = (
    (((0, 1), (0, 1)), (0,), ()),
    (((0, 1), (0, 1), (0, 1)), (0,), (((1,), 0), ((2,), 0))),
)
SQUARES = ((((0, 1), (0, 1)), (0, 1), ()),)
LINE = ((((0, 3),), (0,), ()),)
KEYED = ((((0, 2), (0, 1)), (0,), ()),)

# Those of the document.
PAIRS = ((((0, 2), (0, 2)), (0, 1), ()),)
UP = (((0, (0, 1)), (0, (0, 2))), ((1, 2, 0),), (0,))
SECOND = (((0, (0, 1)), (0, (0, 2))), ((None, 2, -2),), (0,))
PUT = ("insert", 0, (1, 1), ())
SERVED = (((1, (0, 1, 2)), (0, (3, 4))), (), ())


def lists_in(value):
    """All lists and dicts in a value, itself too."""
    items = value if isinstance(value, (tuple, list)) else list(value.values()) if isinstance(value, dict) else []
    return [some for item in items for some in lists_in(item)] + ([value] if isinstance(value, (list, dict)) else [])


def spoilt(value):
    """Change each list and dict in a value, at any depth."""
    for some in lists_in(value):
        if isinstance(some, list):
            some.append(["spoilt"])
        else:
            some["spoilt"] = None
