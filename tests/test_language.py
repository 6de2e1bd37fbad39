"""Checks those rules of ../shared/LANGUAGE.md that are easy to see in the source, and the interface of DOC.md."""

import ast
import builtins
import importlib
import inspect
import pathlib
import unittest

FOLDER = pathlib.Path(__file__).resolve().parent.parent / "watchzones"

INTERFACE = {
    "schemes": ["is_scheme(value)"],
    "databases": [
        "is_database(scheme, value)", "is_change(scheme, value)", "made_plain(scheme, change, values)",
        "carried_out(scheme, database, change)"],
    "queries": ["is_query(scheme, value)", "ways(scheme, query, database)", "answer(scheme, query, database)"],
    "systems": ["solved(system)", "is_solution(system, value)", "is_cycle(system, value)", "tightest(system, x, y)"],
    "cases": [
        "count_cases(scheme, query, table)", "count_bare(scheme, query)", "cases(scheme, query, table)",
        "bare_cases(scheme, query)", "reasons(scheme, query, table, case)",
        "constraint_of(scheme, query, change, case, reason)"],
    "decisions": [
        "decide(scheme, query, change)", "is_counterexample(scheme, query, change, value)",
        "is_refutation(scheme, query, change, value)"],
    "zones": [
        "zones(scheme, query, table)", "key_zones(scheme, query, table)", "lies_in(zone, numbers)",
        "hit(scheme, query, table, row)"],
    "guards": ["guard(scheme, query, change)", "passes(some, values)"],
    "clashes": [
        "clash_systems(scheme, one, other)", "clash(scheme, one, other)", "is_clash(scheme, one, other, value)",
        "is_peace(scheme, one, other, value)"],
    "facts": [
        "find_answer(scheme, query)", "needed(scheme, query, i)", "is_empty(scheme, query, value)",
        "is_spare(scheme, query, i, value)"],
    "repairs": ["effects(scheme, query, database, change)", "repaired(rows, gained, lost)"],
    "cache": ["Cache(scheme)"],
    "logs": ["first_fault(scheme, value)", "is_log(scheme, value)", "replayed(scheme, entries)"],
    "store": ["Store(scheme, database)"],
    "widening": ["is_wide(scheme, query)", "widened(scheme, query)"],
    "waynumbers": [
        "set_answer(scheme, query, database)", "numbers_of(scheme, query, database)", "moved(known, gained, lost)"],
    "choices": [
        "standing(scheme, query, table, case)", "choices_of(scheme, query, table, case)",
        "claims(scheme, query, choice)", "broken(claim)"],
    "trees": [
        "find_tree(scheme, query, change, wanted, case)", "is_tree(scheme, query, change, wanted, case, value)",
        "is_open(scheme, query, change, wanted, case, value)"],
    "bringing": ["decide_output(scheme, query, change, wanted)", "is_decision(scheme, query, change, wanted, value)"],
    "watchers": ["Watcher(scheme)"],
    "watcherlogs": [
        "first_watch_fault(scheme, value)", "is_watch_log(scheme, value)", "watches_behind(scheme, entries)"],
    "board": ["Board(scheme, database)"],
    "errors": [
        "TooManyCases(number)", "InvalidQuery(value)", "InvalidChange(value)", "InvalidAnswer(value)",
        "UnknownQuery(number)", "UnknownMark(number)", "Disagrees(number)"],
    "watchererrors": [
        "TooWide(query)", "InvalidOutput(value)", "InvalidTruth(value)", "NotWatched(number, output)",
        "FullTable(table)", "Hindered(number, hindrance)"],
}

METHODS_OF_CLASSES = {
    ("cache", "Cache"): [
        "add(query)", "take_in(number, rows)", "look(number)", "held()", "tell(change)", "watchers(table, row)", "mark()",
        "back(number)", "log()", "__eq__(other)"],
    ("store", "Store"): [
        "add(query)", "carry(change)", "look(number)", "looked(number)", "tables()", "mark()", "back(number)"],
    ("watchers", "Watcher"): [
        "add(query)", "take_in(number, output, is_in)", "drop(number, output)", "look(number, output)", "held()",
        "tell(change)", "mark()", "back(number)", "log()", "__eq__(other)"],
    ("board", "Board"): [
        "add(query)", "subscribe(number, output)", "leave(number, output)", "carry(change)", "carry_all(changes)",
        "tables()", "subscribed()", "counts(number)", "waste()", "watch_log()", "mark()", "back(number)", "__len__()",
        "__contains__(x)"],
}

BUILTINS = (
    "len range enumerate zip min max sum abs sorted reversed int str bool bytes list tuple dict set isinstance ord repr "
    "any all divmod ValueError").split()
METHODS = (
    "append clear copy count endswith extend find get index insert items join keys pop remove replace reverse "
    "setdefault split startswith strip update values").split()
AT_ONCE = ("zip", "enumerate", "reversed", "map", "items", "keys", "values")
BARRED = (
    ast.Lambda, ast.With, ast.Global, ast.Nonlocal, ast.AsyncFunctionDef, ast.Await, ast.Div, ast.Yield,
    ast.YieldFrom, ast.Import, ast.NamedExpr, ast.JoinedStr, ast.Match, ast.AnnAssign, ast.Set, ast.SetComp, ast.Delete)


def files():
    return sorted(FOLDER.glob("*.py"))


def called(node):
    if isinstance(node, ast.Call):
        return node.func.id if isinstance(node.func, ast.Name) else node.func.attr
    return ""


def names_bound(tree):
    for node in ast.walk(tree):
        if isinstance(node, (ast.FunctionDef, ast.ClassDef)):
            yield node.name
        elif isinstance(node, ast.arg):
            yield node.arg
        elif isinstance(node, ast.Name) and isinstance(node.ctx, ast.Store):
            yield node.id


class TestLanguage(unittest.TestCase):
    def each(self):
        texts = [(path, path.read_text(encoding="utf-8")) for path in files()]
        return [(path, text, ast.parse(text)) for path, text in texts]

    def test_folder_contains_only_files_of_the_package(self):
        names = [path.name for path in FOLDER.iterdir() if path.name != "__pycache__"]
        self.assertEqual(sorted(names), [path.name for path in files()])
        self.assertIn("__init__.py", names)

    def test_sizes_and_signs(self):
        for path, text, tree in self.each():
            lines = text.split("\n")
            self.assertLessEqual(len(lines), 399)
            self.assertLessEqual(max(len(line) for line in lines), 120)
            self.assertTrue(all(" " <= sign <= "~" or sign == "\n" for sign in text))
            for node in ast.walk(tree):
                if isinstance(node, ast.FunctionDef):
                    self.assertLessEqual(node.end_lineno - node.lineno + 1, 40, node.name)
                    self.assertEqual(node.decorator_list, [])

    def test_module_level(self):
        for path, text, tree in self.each():
            self.assertIsNotNone(ast.get_docstring(tree))
            for node in tree.body[1:]:
                self.assertIsInstance(node, (ast.ImportFrom, ast.FunctionDef, ast.ClassDef, ast.Assign))
                if isinstance(node, ast.Assign):
                    ast.literal_eval(node.value)
            bound = [node.name for node in tree.body if isinstance(node, (ast.FunctionDef, ast.ClassDef))]
            bound += [name.name for node in tree.body if isinstance(node, ast.ImportFrom) for name in node.names]
            self.assertEqual(len(bound), len(set(bound)))
            methods = [part for node in tree.body if isinstance(node, ast.ClassDef) for part in node.body]
            inner = [name for node in [*tree.body, *methods] if isinstance(node, ast.FunctionDef)
                     for part in [node.args, *node.body] for name in names_bound(part)]
            self.assertEqual(set(inner) & set(bound), set())

    def test_imports_name_the_file_that_defines_and_make_no_circle(self):
        imported = {}
        for path, text, tree in self.each():
            imported[path.stem] = []
            for node in ast.walk(tree):
                if isinstance(node, ast.ImportFrom):
                    self.assertIn(node, tree.body)
                    folder, stem = node.module.split(".")
                    self.assertEqual(folder, "watchzones")
                    imported[path.stem].append(stem)
                    module = importlib.import_module(node.module)
                    for name in node.names:
                        self.assertIsNone(name.asname)
                        value = getattr(module, name.name)
                        self.assertEqual(getattr(value, "__module__", node.module), node.module)
                        self.assertGreater(text.count(name.name), 1, (path.name, name.name))
        while imported:
            free = [stem for stem in imported if not set(imported[stem]) & set(imported)]
            self.assertNotEqual(free, [])
            imported = {stem: imported[stem] for stem in imported if stem not in free}

    def test_statements_and_expressions(self):
        for path, text, tree in self.each():
            for node in ast.walk(tree):
                self.assertNotIsInstance(node, BARRED, (path.name, getattr(node, "lineno", None)))
                if isinstance(node, ast.Compare):
                    for operator, side in zip(node.ops, node.comparators):
                        if isinstance(operator, (ast.Is, ast.IsNot)):
                            self.assertIsInstance(side, ast.Constant)
                if isinstance(node, ast.Constant):
                    self.assertNotIsInstance(node.value, float)
                    if isinstance(node.value, str):
                        self.assertNotIn("%", node.value)
                if isinstance(node, ast.Assign):
                    self.assertNotIn(called(node.value), (*AT_ONCE, "range"))
                if isinstance(node, ast.GeneratorExp):
                    self.fail("a generator expression")

    def test_names_and_calls(self):
        own = {name for path, text, tree in self.each() for name in names_bound(tree)}
        for path, text, tree in self.each():
            for name in names_bound(tree):
                self.assertTrue(name in ("__init__", "__eq__") or not hasattr(builtins, name), (path.name, name))
            for node in ast.walk(tree):
                if isinstance(node, ast.Name) and hasattr(builtins, node.id):
                    self.assertIn(node.id, BUILTINS, (path.name, node.lineno))
                if isinstance(node, ast.Call) and isinstance(node.func, ast.Attribute):
                    self.assertIn(node.func.attr, {*METHODS, *own, "__init__"}, (path.name, node.lineno))

    def test_only_own_errors_are_caught(self):
        for path, text, tree in self.each():
            for node in ast.walk(tree):
                if isinstance(node, ast.Try):
                    self.assertEqual(node.finalbody, [])
                    for handler in node.handlers:
                        self.assertIsInstance(handler.type, ast.Name, (path.name, node.lineno))
                        self.assertFalse(hasattr(builtins, handler.type.id))
                if isinstance(node, ast.Raise):
                    self.assertEqual(called(node.exc)[:1].isupper(), True, (path.name, node.lineno))

    def test_no_name_is_a_method_and_an_attribute(self):
        methods, attributes = set(), set()
        for path, text, tree in self.each():
            for node in ast.walk(tree):
                if isinstance(node, ast.ClassDef):
                    names = [part.name for part in node.body if isinstance(part, ast.FunctionDef)]
                    self.assertEqual(len(names), len(set(names)))
                    methods.update(names)
                if isinstance(node, ast.Attribute) and isinstance(node.ctx, ast.Store):
                    attributes.add(node.attr)
        self.assertEqual(methods & attributes, set())
        self.assertEqual(attributes & set(METHODS), set())

    def test_operators_change_nothing(self):
        operators = ("__eq__", "__len__", "__contains__")
        for path, text, tree in self.each():
            for node in ast.walk(tree):
                if isinstance(node, ast.FunctionDef) and node.name.startswith("__") and node.name != "__init__":
                    self.assertIn(node.name, operators)
                    for part in ast.walk(node):
                        self.assertNotIsInstance(part, (ast.Assign, ast.AugAssign, ast.For, ast.While))
                        self.assertNotIsInstance(getattr(part, "func", None), ast.Attribute)
                        if node.name == "__len__" and isinstance(part, ast.Return):
                            self.assertEqual(called(part.value), "len")

    def test_sets_stand_only_where_their_order_means_nothing(self):
        for path, text, tree in self.each():
            for node in ast.walk(tree):
                for child in ast.iter_child_nodes(node):
                    if called(child) == "set":
                        self.assertIn(called(node), ("sorted", "len"))


class TestInterface(unittest.TestCase):
    def test_names_and_arguments(self):
        for stem, told in INTERFACE.items():
            module = importlib.import_module(f"watchzones.{stem}")
            for text in told:
                name, _, rest = text.partition("(")
                function = getattr(module, name)
                self.assertEqual(function.__module__, module.__name__)
                self.assertEqual(list(inspect.signature(function).parameters), rest[:-1].split(", "))

    def test_methods_stand_in_the_class_itself(self):
        for (stem, kind), told in METHODS_OF_CLASSES.items():
            own = vars(getattr(importlib.import_module(f"watchzones.{stem}"), kind))
            for text in told:
                name, _, rest = text.partition("(")
                self.assertEqual(list(inspect.signature(own[name]).parameters), [
                    "self", *[word for word in rest[:-1].split(", ") if word]])
