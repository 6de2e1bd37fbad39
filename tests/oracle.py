"""What the document says of changes and cases, found by trying everything; for very small schemes."""

import itertools

from watchzones.cases import constraint_of, reasons
from watchzones.databases import carried_out, made_plain
from watchzones.queries import answer, ways
from watchzones.systems import solved


def all_rows(columns):
    return list(itertools.product(*[range(low, high + 1) for low, high in columns]))


def all_tables(table):
    """All tuples of rows with different keys."""
    columns, key, _ = table
    by_key = {}
    for row in all_rows(columns):
        by_key.setdefault(tuple(row[k] for k in key), []).append(row)
    for chosen in itertools.product(*[[None, *rows] for rows in by_key.values()]):
        yield tuple(sorted(row for row in chosen if row is not None))


def all_databases(scheme):
    for database in itertools.product(*[list(all_tables(table)) for table in scheme]):
        if all(is_met(scheme, database, reference, row)
               for (_, _, references), rows in zip(scheme, database) for reference in references for row in rows):
            yield database


def is_met(scheme, database, reference, row):
    columns, referred = reference
    key = scheme[referred][1]
    return any(tuple(other[k] for k in key) == tuple(row[j] for j in columns) for other in database[referred])


def within(zone, other):
    return all(x <= y for row, other_row in zip(zone, other) for x, y in zip(row, other_row))


def check_zones(test, found, many):
    """Zones are ascending, each once, none within another one, of the right size, tight."""
    test.assertIs(type(found), list)
    test.assertEqual(found, sorted(set(found)))
    for zone in found:
        test.assertEqual([len(row) for row in zone], [many + 1] * (many + 1))
        test.assertEqual([zone[i][i] for i in range(many + 1)], [0] * (many + 1))
        test.assertEqual([other for other in found if other != zone and within(zone, other)], [])
        for i, j, k in itertools.product(range(many + 1), repeat=3):
            test.assertLessEqual(zone[i][k], zone[i][j] + zone[j][k])


def all_values(scheme, change):
    word, table, values, _ = change
    names = sorted({value for value in values if isinstance(value, str)})
    low = min(low for low, _ in scheme[table][0])
    high = max(high for _, high in scheme[table][0])
    return itertools.product(range(low, high + 1), repeat=len(names))


def clashing(scheme, databases, one, other):
    """The values with which the order of two changes matters on one of these databases."""
    names = sorted({value for value in one[2] + other[2] if isinstance(value, str)})
    bounds = [bound for change in (one, other) for bounds in scheme[change[1]][0] for bound in bounds]
    found = set()
    for values in itertools.product(range(min(bounds), max(bounds) + 1), repeat=len(names)):
        known = dict(zip(names, values))
        plain = [made_plain(scheme, change, tuple(
            known[name] for name in sorted({value for value in change[2] if isinstance(value, str)})))
            for change in (one, other)]
        if None not in plain and any(
                in_order(scheme, database, plain) != in_order(scheme, database, plain[::-1])
                for database in databases):
            found.add(values)
    return found


def in_order(scheme, database, changes):
    """The database behind these plain changes, one after the other."""
    for change in changes:
        database = carried_out(scheme, database, change)[0]
    return database


def altering(scheme, query, databases, change):
    """The values with which a change alters the answer on one of these databases."""
    found = set()
    for values in all_values(scheme, change):
        plain = made_plain(scheme, change, values)
        if plain is not None and any(
                answer(scheme, query, database) != answer(scheme, query, carried_out(scheme, database, plain)[0])
                for database in databases):
            found.add(values)
    return found


def has_case(scheme, query, table, case, rows, changed):
    """Tell from the words of [9] whether a way, in which a row changed, belongs to a case."""
    parts = query[0]
    taken, splits = case
    if [p for p in range(len(parts)) if rows[p] == changed and parts[p][0] == table] != list(taken):
        return False
    splits = list(splits)
    outside = [p for p in range(len(parts)) if p not in taken]
    for p, q in itertools.combinations(outside, 2):
        if parts[p][0] == parts[q][0]:
            key = scheme[parts[p][0]][1]
            split = splits.pop(0)
            if split == 0:
                if rows[p] != rows[q]:
                    return False
            elif not has_split(split, [rows[p][k] for k in key], [rows[q][k] for k in key]):
                return False
    for p in outside:
        if parts[p][0] == table:
            key = scheme[table][1]
            if not has_split(splits.pop(0), [rows[p][k] for k in key], [changed[k] for k in key]):
                return False
    for p in outside:
        for columns, referred in scheme[parts[p][0]][2]:
            if referred == table:
                key = scheme[table][1]
                if not has_split(splits.pop(0), [rows[p][k] for k in columns], [changed[k] for k in key]):
                    return False
    return splits == []


def has_split(split, left, right):
    i = (split - 1) // 2
    return left[i] < right[i] if split % 2 == 1 else left[i] > right[i]


def changed_ways(scheme, query, database, plain):
    """The ways with the changed row, each as (rows, changed row)."""
    word, table, values, _ = plain
    behind, hindrance = carried_out(scheme, database, plain)
    if hindrance is not None:
        return []
    larger = behind if word == "insert" else database
    smaller = database if word == "insert" else behind
    (row,) = set(larger[table]) - set(smaller[table])
    return [(found, row) for found in ways(scheme, query, larger)
            if any(part == row and query[0][p][0] == table for p, part in enumerate(found))]


def stands_for(scheme, parts, q, p, i):
    """Tell from the words of [20] whether part q stands for reference i of part p."""
    columns, referred = scheme[parts[p][0]][2][i]
    key = scheme[referred][1]
    return parts[q][0] == referred and all(
        parts[q][1][key[n]] == parts[p][1][columns[n]] for n in range(len(key)))


def unserved(scheme, parts, tables):
    """The references (p, i) to these tables for which no part stands, in their order."""
    return [(p, i) for p in range(len(parts)) for i, (_, referred) in enumerate(scheme[parts[p][0]][2])
            if referred in tables and not any(stands_for(scheme, parts, q, p, i) for q in range(len(parts)))]


def wide_parts(scheme, query):
    """The parts of the wide query, each appended by itself, by the words of [20]; perhaps too many."""
    parts = list(query[0])
    tables = {table for table, _ in parts}
    while unserved(scheme, parts, tables):
        p, i = unserved(scheme, parts, tables)[0]
        columns, referred = scheme[parts[p][0]][2][i]
        variables = [None] * len(scheme[referred][0])
        for n, k in enumerate(scheme[referred][1]):
            variables[k] = parts[p][1][columns[n]]
        for j, variable in enumerate(variables):
            if variable is None:
                there = {known for _, inner in parts for known in inner} | {known for known in variables if known is not None}
                variables[j] = next(n for n in itertools.count() if n not in there)
        parts.append((referred, tuple(variables)))
    return tuple(parts)


def outputs(scheme, query, database):
    """The output of each way, by loops over all tuples of rows."""
    parts, constraints, output = query
    found = []
    for rows in itertools.product(*[database[table] for table, _ in parts]):
        pairs = [(variable, number) for (_, variables), row in zip(parts, rows) for variable, number in zip(variables, row)]
        known = {None: 0, **dict(pairs)}
        if all(known[variable] == number for variable, number in pairs) and all(
                known[x] - known[y] <= c for x, y, c in constraints):
            found.append(tuple(known[variable] for variable in output))
    return found


def plain_changes(scheme):
    """All plain changes of a very small scheme."""
    for table, (columns, key, _) in enumerate(scheme):
        for row in all_rows(columns):
            yield ("insert", table, row, ())
        for row in all_rows([columns[k] for k in key]):
            yield ("delete", table, row, ())


class Movements:
    """The sets of a query before and behind each plain change, on all of these databases."""

    def __init__(self, scheme, databases, query):
        self.scheme = scheme
        self.databases = databases
        self.sets = {database: frozenset(outputs(scheme, query, database)) for database in databases}
        self.outputs = sorted({output for some in self.sets.values() for output in some})
        self.known = {}

    def pairs(self, plain):
        """The pairs of different sets before and behind a plain change."""
        if plain not in self.known:
            found = {(self.sets[database], self.sets[carried_out(self.scheme, database, plain)[0]])
                     for database in self.databases}
            self.known[plain] = {(before, behind) for before, behind in found if before != behind}
        return self.known[plain]

    def mattering(self, change, wanted):
        """The values with which a change matters."""
        found = set()
        for values in all_values(self.scheme, change):
            plain = made_plain(self.scheme, change, values)
            if plain is not None and any(
                    wanted is None or (wanted in before) != (wanted in behind) for before, behind in self.pairs(plain)):
                found.add(values)
        return found

    def ends(self, plain, output, truth):
        """Whether a plain change ends a watch: some database on which it is true makes it false."""
        return any((output in before) == truth != (output in behind) for before, behind in self.pairs(plain))


def choice_claims(scheme, query, choice):
    """The claims of a choice, by the words of [22]."""
    wide = wide_parts(scheme, query)
    places = [(p, j) for p, (_, variables) in enumerate(query[0]) for j in range(len(variables))]

    def node(place):
        return wide[choice[place[0]]][1][place[1]]

    def of(variable):
        return [place for place in places if query[0][place[0]][1][place[1]] == variable]

    found = []
    for variable in range(16):
        for place in of(variable)[1:]:
            found += [(node(place), node(of(variable)[0]), 0), (node(of(variable)[0]), node(place), 0)]
    for x, y, c in query[1]:
        found.append((None if x is None else node(of(x)[0]), None if y is None else node(of(y)[0]), c))
    for x in query[2]:
        found += [(node(of(x)[0]), x, 0), (x, node(of(x)[0]), 0)]
    return found


def standing_parts(scheme, query, table, case):
    """The standing parts of a case of the wide query, by the words of [22]."""
    parts = wide_parts(scheme, query)
    taken, splits = case
    outside = [p for p in range(len(parts)) if p not in taken]
    pairs = [(p, q) for p in outside for q in outside if p < q and parts[p][0] == parts[q][0]]
    one = [pair for pair, split in zip(pairs, splits) if split == 0]
    return [q for q in outside if not any(upper == q for _, upper in one)]


def all_choices(scheme, query, table, case):
    parts = wide_parts(scheme, query)
    stands = standing_parts(scheme, query, table, case)
    return sorted(choice for choice in itertools.product(stands, repeat=len(query[0]))
                  if all(parts[p][0] == own for p, (own, _) in zip(choice, query[0])))


def strict(value):
    """Tell whether a value is an int that is not a bool."""
    return type(value) is int


class Case:
    """The constraints and choices of a case, by the words of [23]; constraints of reasons are those of the cases."""

    def __init__(self, scheme, query, change, wanted, case):
        self.wide = (wide_parts(scheme, query), query[1], query[2])
        self.scheme, self.query, self.change, self.wanted, self.case = scheme, query, change, wanted, case
        self.options = {choice: [(y, x, -c - 1) for x, y, c in choice_claims(scheme, query, choice)]
                        for choice in all_choices(scheme, query, change[1], case)}
        self.constraints = [self.constraint(reason, []) for reason in self.reasons()]

    def reasons(self):
        own = reasons(self.scheme, self.wide, self.change[1], self.case)
        values = [("value", k, side) for k in range(len(self.change[2])) for side in (0, 1)]
        conditions = [("condition", i) for i in range(len(self.change[3]))]
        wanted = [("wanted", k, side) for k in range(len(self.wanted or ())) for side in (0, 1)]
        return own + values + conditions + wanted

    def constraint(self, reason, path):
        """The constraint of any value behind a path of broken claims, or None."""
        if type(reason) is tuple and len(reason) == 2 and reason[0] == "broken" and strict(reason[1]):
            return path[reason[1]] if 0 <= reason[1] < len(path) else None
        if type(reason) is tuple and len(reason) == 3 and reason[0] == "wanted" and self.wanted is not None:
            _, k, side = reason
            if not (strict(k) and strict(side) and 0 <= k < len(self.wanted) and 0 <= side <= 1):
                return None
            x, n = self.query[2][k], self.wanted[k]
            return (x, None, n) if side == 0 else (None, x, -n)
        return constraint_of(self.scheme, self.wide, self.change, self.case, reason)

    def is_tree(self, value):
        return type(value) is list and self.walk(value, [], []) == []

    def walk(self, value, chosen, path):
        """What is left of a list of nodes behind the tree with which it begins, or None."""
        if not value or type(value[0]) is not tuple or len(value[0]) != 2:
            return None
        word, told = value[0]
        if word == "bar":
            return value[1:] if self.is_bar(told, path) else None
        if word != "choice" or type(told) is not tuple or not all(strict(p) for p in told):
            return None
        if told not in self.options or told in chosen:
            return None
        rest = value[1:]
        for constraint in self.options[told]:
            rest = self.walk(rest, [*chosen, told], [*path, constraint])
            if rest is None:
                return None
        return rest

    def is_bar(self, told, path):
        if type(told) is not list or told == []:
            return False
        found = [self.constraint(reason, path) for reason in told]
        return None not in found and sum(c for _, _, c in found) < 0 and all(
            found[k - 1][1] == found[k][0] for k in range(len(found)))

    def is_open(self, value):
        nodes = {node for x, y, _ in self.constraints for node in (x, y) if node is not None}
        if type(value) is not dict or not all(strict(item) for pair in value.items() for item in pair):
            return False
        if set(value) != nodes:
            return False
        return all(self.holds(constraint, value) for constraint in self.constraints) and all(
            any(self.holds(constraint, value) for constraint in some) for some in self.options.values())

    def holds(self, constraint, value):
        x, y, c = constraint
        known = {**value, None: 0}
        return known[x] - known[y] <= c

    def brute_solution(self):
        """A solution with which the case is open, by trying all numbers of the variables; or None."""
        variables = {}
        for table, inner in self.wide[0]:
            for variable, bounds in zip(inner, self.scheme[table][0]):
                variables.setdefault(variable, []).append(range(bounds[0], bounds[1] + 1))
        for numbers in itertools.product(*[sorted(set.intersection(*map(set, spans))) for spans in variables.values()]):
            known = dict(zip(variables, numbers))
            taken = self.wide[0][self.case[0][0]][1]
            for j, variable in enumerate(taken):
                known[16 + j] = known[variable]
            columns = range(len(taken)) if self.change[0] == "insert" else self.scheme[self.change[1]][1]
            for value, j in zip(self.change[2], columns):
                if isinstance(value, str):
                    known[20 + "abcd".index(value)] = known[16 + j]
            if self.is_open(known):
                return known
        return None

    def grown(self, dice, most, chosen=(), path=()):
        """A tree whose choices are taken as the dice fall, or None if it has too many nodes or there is none."""
        names = self.reasons() + [("broken", d) for d in range(len(path))]
        word, found = solved([self.constraint(reason, path) for reason in names])
        if word == "cycle":
            return [("bar", [names[i] for i in found])]
        left = [choice for choice in self.options if choice not in chosen]
        if not left or most <= 0:
            return None
        choice = dice.choice(left)
        tree = [("choice", choice)]
        for constraint in self.options[choice]:
            branch = self.grown(dice, most - len(tree), (*chosen, choice), (*path, constraint))
            if branch is None:
                return None
            tree += branch
        return tree
