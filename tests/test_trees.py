import copy
import unittest

import oracle
from samples import (
    BIG, CROSSED, KEYED, LINE, OTHERS, PAIRS, PUT, SCHEME, SECOND, SERVED, SQUARES, TWICE, UP, dice, lists_in, misshapen,
    random_change, random_query, replaced_by_others, same, spoilt)
from watchzones.cases import cases, count_cases
from watchzones.trees import find_tree, is_open, is_tree
from watchzones.widening import widened

BOTH_TAKE = ((0, 1), ())
FIRST_TAKES = ((0,), (1,))
UP_TREE = [("choice", (1, 1))] + [("bar", [("broken", 0)])] * 5
# A tree with three choices, and the case that it is of; two claims of the first one are broken behind one branch.
DEEP = (KEYED, (((0, (0, 3)), (0, (1, 2)), (0, (3, 1))), ((1, 0, 1),), (1,)), ("delete", 0, (2,), ()), (1,), ((0,), (2, 1, 1)))
INNER = [
    ("choice", (1, 1, 2)), ("bar", [("broken", 1)]), ("bar", [("broken", 1)]),
    ("bar", [("broken", 1), ("apart", 1, 2), ("high", 2, 1), ("low", 1, 1)]),
    ("bar", [("broken", 1), ("broken", 0), ("high", 2, 1), ("low", 0, 1)]),
    ("bar", [("broken", 1)]), ("bar", [("broken", 1)]), ("bar", [("broken", 1)])]
OUTER = ("bar", [("broken", 0), ("high", 1, 1), ("wanted", 0, 1)])
DEEP_TREE = [("choice", (1, 1, 1)), OUTER, *INNER, *INNER, OUTER, *[("bar", [("broken", 0)])] * 3]


def some_case(chosen, parts=3):
    """A scheme, a query, a change, what is wanted, and a case of the wide query; or None."""
    scheme = chosen.choice((CROSSED, TWICE, LINE, SQUARES, KEYED))
    query = random_query(chosen, scheme, parts)
    change = random_change(chosen, scheme)
    if len(oracle.wide_parts(scheme, query)) > 4:
        return None
    wide = widened(scheme, query)
    if not 0 < count_cases(scheme, wide, change[1]) <= 300:
        return None
    wanted = None if chosen.random() < 0.3 else tuple(chosen.randint(-1, 2) for _ in query[2])
    return (scheme, query, change, wanted, chosen.choice(cases(scheme, wide, change[1])))


def in_free_case(chosen, parts=3):
    """Such a case whose constraints have a solution, of a query with few constraints; or None."""
    told = some_case(chosen, parts)
    if told is None:
        return None
    scheme, query, change, wanted, case = told
    told = (scheme, (query[0], query[1][:1], query[2][:1]), change, None if wanted is None else wanted[:1], case)
    found = oracle.solved([constraint for constraint in oracle.Case(*told).constraints])
    return told if found[0] == "solution" else None


def changed(value):
    """Yield a list of nodes with a node, a reason, a number left out, put in, twice, exchanged or another one."""
    for k, node in enumerate(value):
        rest = value[k + 1:]
        yield value[:k] + rest
        yield value[:k] + [node, node] + rest
        yield value[:k] + rest[:1] + [node] + rest[1:]
        yield value[:k] + [("bar", []), node] + rest
        if node[0] == "bar":
            for told in changed_bars(node[1]):
                yield value[:k] + [("bar", told)] + rest
        else:
            for p in range(len(node[1])):
                for step in (-1, 1):
                    yield value[:k] + [("choice", (*node[1][:p], node[1][p] + step, *node[1][p + 1:]))] + rest
            yield value[:k] + [("choice", node[1][1:])] + rest
            yield value[:k] + [("choice", (*node[1], node[1][0]))] + rest


def changed_bars(bar):
    for k, reason in enumerate(bar):
        yield bar[:k] + bar[k + 1:]
        yield bar[:k] + [reason, reason] + bar[k + 1:]
        yield bar[:k] + bar[k + 1:k + 2] + [reason] + bar[k + 2:]
        for word in ("low", "high", "takes", "wanted", "broken", "value"):
            yield bar[:k] + [(word, *reason[1:])] + bar[k + 1:]
        for j in range(1, len(reason)):
            for step in (-1, 1):
                yield bar[:k] + [(*reason[:j], reason[j] + step, *reason[j + 1:])] + bar[k + 1:]
    yield bar * 2
    yield bar[1:] + bar[:1]


class Trees(unittest.TestCase):
    def tree(self, told, value, right):
        """is_tree says so, and so does the walk of oracle."""
        kept = copy.deepcopy(value)
        self.assertIs(is_tree(*told, value), right, (told, value))
        self.assertIs(oracle.Case(*told).is_tree(value), right)
        self.assertTrue(same(value, kept))

    def open(self, told, value, right):
        kept = copy.deepcopy(value)
        self.assertIs(is_open(*told, value), right, (told, value))
        self.assertIs(oracle.Case(*told).is_open(value), right)
        self.assertEqual(value, kept)

    def finds(self, told):
        """What find_tree returns is right; never both."""
        kept = copy.deepcopy(told)
        found = find_tree(*told)
        self.assertIs(type(found), tuple)
        word, value = found
        self.assertIn(word, ("tree", "open"))
        self.tree(told, value, word == "tree")
        self.open(told, value, word == "open")
        self.assertTrue(same(told, kept))
        again = find_tree(*copy.deepcopy(told))
        self.assertEqual(again, found)
        every = lists_in(found) + lists_in(again)
        self.assertEqual(len({id(some) for some in every}), len(every))
        spoilt(again)
        self.assertTrue(same(find_tree(*told), found))
        return found


class TestFindTree(Trees):
    def test_examples(self):
        self.assertEqual(find_tree(PAIRS, UP, PUT, None, BOTH_TAKE)[0], "open")
        self.tree((PAIRS, UP, PUT, None, FIRST_TAKES), UP_TREE, True)
        self.tree((PAIRS, UP, PUT, (2,), BOTH_TAKE), [("bar", [("wanted", 0, 1), ("takes", 0, 0, 0), ("value", 0, 0)])], True)

    def test_the_only_solution(self):
        self.assertEqual(self.finds((PAIRS, UP, PUT, None, BOTH_TAKE)), ("open", {0: 1, 1: 1, 2: 1, 16: 1, 17: 1}))
        self.assertEqual(self.finds((PAIRS, UP, PUT, (1,), BOTH_TAKE)), ("open", {0: 1, 1: 1, 2: 1, 16: 1, 17: 1}))

    def test_cases_of_the_examples(self):
        for query, change, wanted, words in (
                (UP, PUT, None, ["tree", "tree", "tree", "tree", "open", "tree", "tree", "tree", "tree"]),
                (UP, PUT, (1,), ["tree", "tree", "tree", "tree", "open", "tree", "tree", "tree", "tree"]),
                (UP, PUT, (2,), ["tree"] * 9),
                (SECOND, PUT, None, ["tree"] * 9),
                (SECOND, ("insert", 0, (1, 2), ()), None, ["tree", "tree", "tree", "tree", "open", "tree", "tree", "open", "tree"])):
            found = [self.finds((PAIRS, query, change, wanted, case))[0] for case in cases(PAIRS, query, 0)]
            self.assertEqual(found, words, (query, change, wanted))

    def test_a_choice_without_claims(self):
        told = (SCHEME, SERVED, ("insert", 0, (4, 9), ()), (), ((1,), (1, 1)))
        self.assertEqual(self.finds(told), ("tree", [("choice", (0, 2))]))
        self.tree(told, [("choice", (0, 1))], False)
        self.tree(told, [("choice", (0, 2)), ("bar", [("broken", 0)])], False)

    def test_outputs_beyond_the_bounds(self):
        for n in (-1, 3, 10 ** 30, -10 ** 30):
            for case in cases(PAIRS, UP, 0):
                self.assertEqual(self.finds((PAIRS, UP, ("insert", 0, ("a", "b"), ()), (n,), case))[0], "tree")
        self.tree((PAIRS, UP, PUT, (3,), BOTH_TAKE), [("bar", [("wanted", 0, 1), ("high", 0, 0)])], True)
        self.tree((PAIRS, UP, PUT, (3,), BOTH_TAKE), [("bar", [("wanted", 0, 0), ("low", 0, 0)])], False)
        self.tree((PAIRS, UP, PUT, (-1,), BOTH_TAKE), [("bar", [("wanted", 0, 0), ("low", 0, 0)])], True)

    def test_an_output_that_contradicts_itself(self):
        query = (UP[0], UP[1], (0, 0))
        self.tree((PAIRS, query, PUT, (1, 0), BOTH_TAKE), [("bar", [("wanted", 0, 1), ("wanted", 1, 0)])], True)
        self.assertEqual([self.finds((PAIRS, query, PUT, (1, n), BOTH_TAKE))[0] for n in (0, 1)], ["tree", "open"])

    def test_several_choices(self):
        self.tree(DEEP, DEEP_TREE, True)
        self.assertEqual(self.finds(DEEP)[0], "tree")

    def test_a_case_that_is_open_only_where_claims_are_broken(self):
        # The other row must be above: part 0 takes the changed row, and part 1 could take it, too.
        query = (((0, (0, 1)), (0, (2, 3))), (), (1,))
        word, found = self.finds((SQUARES, query, ("insert", 0, (0, "a"), ()), None, ((0,), (2,))))
        self.assertEqual((word, found[0], found[2], found[1] == found[3]), ("open", 0, 1, False))
        told = (SQUARES, query, ("insert", 0, (0, "a"), ()), (0,), ((0,), (2,)))
        self.assertEqual(self.finds(told), ("open", {0: 0, 1: 0, 2: 1, 3: 1, 16: 0, 17: 0, 20: 0}))

    def test_small_queries(self):
        seen = {"tree": 0, "open": 0, "choices": 0, "wanted": 0, "parameters": 0, "conditions": 0, "delete": 0}
        for seed in range(1500):
            chosen = dice(seed)
            told = some_case(chosen) if seed % 3 == 0 else in_free_case(chosen)
            if told is None:
                continue
            word, value = self.finds(told)
            seen[word] += 1
            seen["choices"] += word == "tree" and value[0][0] == "choice"
            seen["wanted"] += told[3] is not None and word == "open"
            seen["parameters"] += any(isinstance(item, str) for item in told[2][2])
            seen["conditions"] += told[2][3] != ()
            seen["delete"] += told[2][0] == "delete" and word == "open"
        self.assertGreater(min(seen.values()), 25, seen)

    def test_against_all_numbers(self):
        words = []
        for seed in range(3000):
            told = in_free_case(dice(seed), 2 + seed % 2)
            if told is None:
                continue
            word, _ = self.finds(told)
            self.assertEqual(word == "open", oracle.Case(*told).brute_solution() is not None, told)
            words.append(word)
        self.assertGreater(min(words.count("tree"), words.count("open")), 50)

    def test_four_parts_of_one_table(self):
        # There are more than 300 cases, but each of them has its choices all the same.
        query = (tuple((0, (p, 4 + p)) for p in range(4)), ((4, 5, 0), (6, 7, -1)), (0, 2))
        for splits in ((1, 1, 1, 1, 1, 1), (0, 1, 1, 1, 1, 1), (2, 2, 2, 2, 1, 1)):
            for change in (("insert", 0, ("a", "b"), ()), ("insert", 0, (1, 1), ()), ("delete", 0, ("c",), ())):
                for wanted in (None, (0, 1), (1, 1), (2, 0)):
                    self.finds((((((0, 3), (0, 3)), (0,), ()),), query, change, wanted, ((0,), splits)))


class TestIsTree(Trees):
    def test_bars(self):
        told = (PAIRS, UP, PUT, (2,), BOTH_TAKE)
        bar = [("wanted", 0, 1), ("takes", 0, 0, 0), ("value", 0, 0)]
        self.tree(told, [("bar", bar)], True)
        self.tree(told, [("bar", bar[1:] + bar[:1])], True)
        self.tree(told, [("bar", bar * 2)], True)
        for wrong in (bar[::-1], bar[:2], bar[1:], [], [("wanted", 0, 0), *bar[1:]], tuple(bar), bar[0], [*bar, None], [bar]):
            self.tree(told, [("bar", wrong)], False)
        for wrong in ([], [("bar", bar)] * 2, [("bar", bar), ("choice", (1, 1))], [("bars", bar)], [("bar", bar, ())], [["bar", bar]],
                      [("bar",)], ("bar", bar), [bar], (("bar", bar),), [None], None, {0: ("bar", bar)}):
            self.tree(told, wrong, False)

    def test_wanted_only_where_there_is_one(self):
        self.tree((PAIRS, UP, PUT, None, BOTH_TAKE), [("bar", [("wanted", 0, 1), ("takes", 0, 0, 0), ("value", 0, 0)])], False)
        query = (UP[0], UP[1], (2, 0))
        told = (PAIRS, query, PUT, (3, 1), BOTH_TAKE)
        self.tree(told, [("bar", [("wanted", 0, 1), ("high", 1, 1)])], True)
        for k, side in ((1, 1), (0, 0), (2, 1), (-1, 1), (0, 2), (0, -1), (False, 1), (0, True), (0, None), ("0", 1)):
            self.tree(told, [("bar", [("wanted", k, side), ("high", 1, 1)])], False)
        for reason in (("wanted", 0), ("wanted", 0, 1, 0), ("wanted",), ["wanted", 0, 1]):
            self.tree(told, [("bar", [reason, ("high", 1, 1)])], False)

    def test_choices_of_the_case_alone(self):
        told = (PAIRS, UP, PUT, None, FIRST_TAKES)
        self.tree(told, UP_TREE, True)
        for choice in ((0, 1), (1, 0), (0, 0), (1,), (1, 1, 1), (), (2, 2), [1, 1], (True, 1), (1, True), None, "choice", (None, None),
                       ((1, 1),), (1.0, 1.0)):
            self.tree(told, [("choice", choice), *UP_TREE[1:]], False)

    def test_words_of_nodes(self):
        told = (PAIRS, UP, PUT, None, FIRST_TAKES)
        for word in ("bar", "choices", "Choice", "", None, 0, True, ("choice",), ["choice"], "open", "tree"):
            self.tree(told, [(word, (1, 1)), *UP_TREE[1:]], False)
        for word in ("choice", "bars", "Bar", "", None, 0, True, ("bar",), ["bar"]):
            self.tree(told, UP_TREE[:5] + [(word, [("broken", 0)])], False)

    def test_a_tree_for_each_claim(self):
        told = (PAIRS, UP, PUT, None, FIRST_TAKES)
        for many in (0, 1, 4, 6, 10):
            self.tree(told, UP_TREE[:1] + UP_TREE[1:2] * many, False)
        self.tree(told, UP_TREE * 2, False)
        self.tree(told, UP_TREE[:1] + UP_TREE, False)

    def test_a_choice_that_is_on_the_path_already(self):
        told = DEEP
        self.tree(told, DEEP_TREE, True)
        twice = [("choice", (1, 1, 1)), OUTER, ("choice", (1, 1, 1)), *INNER[1:], *INNER, *DEEP_TREE[18:]]
        self.tree(told, twice, False)
        # Behind another branch it may stand again, as it does in the tree.
        self.tree(told, DEEP_TREE[:2] + INNER + INNER + DEEP_TREE[18:], True)
        self.tree(told, [("choice", (1, 1, 2)), *DEEP_TREE[1:]], False)
        self.tree((PAIRS, UP, PUT, None, FIRST_TAKES), [("choice", (1, 1)), *UP_TREE, *UP_TREE[2:]], False)

    def test_broken_claims_of_the_path_alone(self):
        told = (PAIRS, UP, PUT, None, FIRST_TAKES)
        for d in (1, -1, 2, True, False, None, "0", 10 ** 29):
            self.tree(told, UP_TREE[:3] + [("bar", [("broken", d)])] + UP_TREE[4:], False)
        for reason in (("broken",), ("broken", 0, 0), ["broken", 0], "broken", ("breaks", 0), (("broken",), 0)):
            self.tree(told, UP_TREE[:3] + [("bar", [reason])] + UP_TREE[4:], False)
        self.tree(told, UP_TREE[:3] + [("bar", [("broken", 0)] * 3)] + UP_TREE[4:], True)
        self.tree((PAIRS, UP, PUT, None, BOTH_TAKE), [("bar", [("broken", 0)])], False)

    def test_broken_claims_are_counted_along_the_path(self):
        self.tree(DEEP, DEEP_TREE, True)
        for k, node in enumerate(DEEP_TREE):
            if node == ("bar", [("broken", 1)]):
                self.tree(DEEP, DEEP_TREE[:k] + [("bar", [("broken", 0)])] + DEEP_TREE[k + 1:], False)
                self.tree(DEEP, DEEP_TREE[:k] + [("bar", [("broken", 2)])] + DEEP_TREE[k + 1:], False)

    def test_the_tree_of_the_first_claim_comes_first(self):
        query = (((0, (0, 0)), (0, (1, 2))), ((1, 2, 1),), ())
        told = (SQUARES, query, PUT, None, ((1,), (1,)))
        word, tree = self.finds(told)
        self.assertEqual((word, tree[0]), ("tree", ("choice", (0, 0))))
        self.assertEqual(len(tree), 4)
        self.tree(told, [tree[0], *tree[1:][::-1]], tree[1:] == tree[1:][::-1])

    def test_trees_that_are_grown_as_the_dice_fall(self):
        grown = deep = 0
        for seed in range(3000):
            chosen = dice(seed)
            told = in_free_case(chosen)
            if told is None:
                continue
            own = oracle.Case(*told)
            tree = own.grown(chosen, 400)
            if tree is None:
                continue
            self.tree(told, tree, True)
            self.assertEqual(find_tree(*told)[0], "tree")
            grown += 1
            deep += any(("broken", 1) in node[1] for node in tree if node[0] == "bar")
        self.assertGreater(grown, 60)
        self.assertGreater(deep, 5)

    def test_changed_trees(self):
        right = wrong = 0
        for told, tree in self.some_trees():
            own = oracle.Case(*told)
            for value in changed(tree):
                expected = own.is_tree(value)
                self.assertIs(is_tree(*told, value), expected, (told, value))
                right += expected
                wrong += not expected
        self.assertGreater(right, 100)
        self.assertGreater(wrong, 3000)

    def some_trees(self):
        yield DEEP, DEEP_TREE
        yield (PAIRS, UP, PUT, None, FIRST_TAKES), UP_TREE
        for seed in range(1000):
            told = some_case(dice(seed)) if seed % 10 == 0 else in_free_case(dice(seed))
            if told is not None:
                word, value = find_tree(*told)
                if word == "tree":
                    yield told, value

    def test_values_of_other_kinds(self):
        for told, tree in self.some_trees():
            if len(tree) <= 12:
                for value in misshapen(tree):
                    self.assertIs(is_tree(*told, value), False)
        told = (PAIRS, UP, PUT, None, FIRST_TAKES)
        own = oracle.Case(*told)
        for value in [*OTHERS, *replaced_by_others(UP_TREE[:3])]:
            self.tree(told, value, False)
        for value in replaced_by_others(UP_TREE[3]):
            self.assertIs(is_tree(*told, UP_TREE[:3] + [value] + UP_TREE[4:]), own.is_tree(UP_TREE[:3] + [value] + UP_TREE[4:]))
        self.tree(told, [("choice", (1, 1))] * 2000, False)
        self.tree(told, [("bar", [("broken", 0)] * 10000)], False)
        self.tree(told, UP_TREE[:5] + [("bar", [("broken", 0)] * 10000)], True)

    def test_trees_of_other_cases_outputs_and_changes(self):
        seen = {True: 0, False: 0}
        for seed in range(0, 600, 3):
            chosen = dice(seed)
            told = in_free_case(chosen)
            if told is None:
                continue
            scheme, query, change, wanted, case = told
            word, value = find_tree(*told)
            others = cases(scheme, widened(scheme, query), change[1])
            beside = [(scheme, query, change, wanted, other) for other in chosen.sample(others, min(4, len(others)))]
            beside += [(scheme, query, change, tuple(n for _ in query[2]), case) for n in (0, 1)]
            beside += [(scheme, query, change, None, case)]
            beside += [(scheme, query, (change[0], change[1], change[2], ()), wanted, case)]
            for other in beside:
                own = oracle.Case(*other)
                expected = (own.is_tree if word == "tree" else own.is_open)(value)
                self.assertIs((is_tree if word == "tree" else is_open)(*other, value), expected)
                seen[expected] += 1
        self.assertGreater(min(seen.values()), 50)


class TestIsOpen(Trees):
    def test_just_the_solution(self):
        told = (PAIRS, UP, PUT, None, BOTH_TAKE)
        right = {0: 1, 1: 1, 2: 1, 16: 1, 17: 1}
        self.open(told, right, True)
        for node in right:
            self.open(told, {**right, node: 2}, False)
            self.open(told, {**right, node: 0}, False)
            self.open(told, {**right, node: True}, False)
            self.open(told, {**right, node: None}, False)
            self.open(told, {**right, node: (1,)}, False)
            self.open(told, {key: right[key] for key in right if key != node}, False)
        for node in (3, 15, 18, 20, 24, None, "0", -1, 31, (0,)):
            self.open(told, {**right, node: 1}, False)
        self.open(told, {True if node == 1 else False if node == 0 else node: 1 for node in right}, False)
        for value in [*OTHERS, list(right.items()), tuple(right), [right], (right,), "open", ("open", right)]:
            self.open(told, value, False)

    def test_the_order_of_the_keys_means_nothing(self):
        self.open((PAIRS, UP, PUT, None, BOTH_TAKE), {17: 1, 2: 1, 0: 1, 16: 1, 1: 1}, True)

    def test_each_choice_needs_a_broken_claim(self):
        query = (((0, (0, 1)), (0, (2, 3))), (), (1,))
        told = (SQUARES, query, ("insert", 0, (0, "a"), ()), None, ((0,), (2,)))
        base = {0: 0, 2: 1, 16: 0}
        for one in (0, 1):
            for other in (0, 1):
                self.open(told, {**base, 1: one, 3: other, 17: one, 20: one}, one != other)
        told = (SQUARES, (query[0], (), ()), *told[2:])
        for one in (0, 1):
            self.open(told, {**base, 1: one, 3: 1, 17: one, 20: one}, False)

    def test_a_broken_constraint_is_enough(self):
        # Both rows are ways with part 1 or 2; the claim of the constraint is broken by the row of part 1 alone.
        query = (((0, (0,)), (0, (1,))), ((0, None, 1),), ())
        for split, numbers, right in ((2, (0, 1), False), (2, (0, 2), True), (2, (1, 3), True), (1, (1, 0), False)):
            told = (LINE, query, ("insert", 0, ("b",), ()), None, ((0,), (split,)))
            self.open(told, {0: numbers[0], 1: numbers[1], 16: numbers[0], 21: numbers[0]}, right)

    def test_constraints_of_the_case_the_change_and_wanted(self):
        query = (((0, (0,)), (0, (1,))), ((0, 1, 2),), (0, 1))
        case = ((0, 1), ())
        change = ("delete", 0, ("a",), (("a", None, 2),))
        for n in range(-1, 5):
            value = {0: n, 1: n, 16: n, 20: n}
            self.open((LINE, query, change, None, case), value, 0 <= n <= 2)
            self.open((LINE, query, change, (1, 1), case), value, n == 1)
            self.open((LINE, query, change, (1, 2), case), value, False)
            self.open((LINE, query, ("delete", 0, (2,), ()), None, case), {0: n, 1: n, 16: n}, n == 2)

    def test_changed_solutions(self):
        right = wrong = 0
        for seed in range(600):
            told = in_free_case(dice(seed))
            if told is None:
                continue
            word, value = find_tree(*told)
            if word == "open":
                own = oracle.Case(*told)
                for node in value:
                    for step in (-2, -1, 1, 2):
                        other = {**value, node: value[node] + step}
                        self.assertIs(is_open(*told, other), own.is_open(other))
                        right += own.is_open(other)
                        wrong += not own.is_open(other)
                    self.assertIs(is_open(*told, {**value, node: bool(value[node])}), False)
                    self.assertIs(is_open(*told, {key: value[key] for key in value if key != node}), False)
                for other in oracle.itertools.islice(self.all_shifted(value), 12):
                    self.assertIs(is_open(*told, other), own.is_open(other))
                    right += own.is_open(other)
        self.assertGreater(right, 20)
        self.assertGreater(wrong, 500)

    def all_shifted(self, value):
        """Solutions in which all nodes with one number have another one."""
        for number in sorted(set(value.values())):
            for other in (-1, 0, 1, 2):
                yield {node: other if value[node] == number else value[node] for node in value}
