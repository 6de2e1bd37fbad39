import copy
import unittest

import oracle
from samples import (
    CROSSED, KEYED, LINE, OTHERS, PAIRS, PUT, SCHEME, SECOND, SERVED, SQUARES, TWICE, UP, dice, lists_in, misshapen,
    random_change, random_query, replaced_by_others, same, spoilt)
from watchzones.bringing import decide_output, is_decision
from watchzones.cache import Cache
from watchzones.databases import carried_out
from watchzones.logs import is_log
from watchzones.watcherlogs import first_watch_fault, is_watch_log, watches_behind
from watchzones.watchers import Watcher

NONE = (((0, (0, 1)),), (), ())
TAKE = ("delete", 0, (1, 1), ())
WAY = ("way",)
# Any valid papers will do, not just those that a watcher tells.
CAN = ("can", (((0, 0), (2, 2)),), ())
GONE = ("can", (((1, 1), (2, 1), (2, 2)),), ())
NEVER = decide_output(PAIRS, SECOND, PUT, (1,))
LOG = [
    ("add", UP), ("add", SECOND), ("take in", 0, (1,), False), ("mark",), ("take in", 1, (1,), False), ("take in", 1, (2,), True),
    ("tell", PUT, ((0, (1,), CAN), (1, (1,), NEVER), (1, (2,), WAY))), ("drop", 1, (1,)), ("mark",),
    ("tell", PUT, ((1, (2,), WAY),)), ("back", 1), ("back", 0), ("tell", TAKE, ((0, (1,), WAY),)), ("add", NONE),
    ("take in", 2, (), True), ("tell", TAKE, ((0, (1,), WAY), (2, (), ("can", (((1, 1),),), ())))), ("mark",)]


def filled_watcher():
    """A watcher whose log has entries of all kinds."""
    watcher = Watcher(PAIRS)
    for query in (UP, SECOND, NONE):
        watcher.add(query)
    watcher.take_in(0, (1,), False)
    watcher.take_in(1, (1,), False)
    watcher.take_in(2, (), True)
    watcher.mark()
    watcher.tell(PUT)
    watcher.take_in(0, (1,), True)
    watcher.tell(TAKE)
    watcher.mark()
    watcher.drop(1, (1,))
    watcher.tell(PUT)
    watcher.back(0)
    watcher.take_in(0, (1,), False)
    watcher.tell(("insert", 0, (2, 0), ()))
    return watcher


class Logs(unittest.TestCase):
    def fault(self, number, value, scheme=PAIRS):
        kept = copy.deepcopy(value)
        self.assertEqual(first_watch_fault(scheme, value), number, value)
        self.assertIs(is_watch_log(scheme, value), number is None)
        self.assertTrue(same(value, kept))


class TestFirstWatchFault(Logs):
    def test_examples(self):
        watcher = Watcher(PAIRS)
        watcher.add(UP)
        watcher.take_in(0, (1,), True)
        watcher.tell(PUT)
        self.assertEqual(
            [is_watch_log(PAIRS, watcher.log()), first_watch_fault(PAIRS, watcher.log() + [("back", 0)]),
             watches_behind(PAIRS, watcher.log())], [True, 3, ([UP], [(0, (1,), True)])])

    def test_logs_and_each_beginning_of_them(self):
        for log in ([], LOG, filled_watcher().log()):
            for many in range(len(log) + 1):
                self.fault(None, log[:many])

    def test_told_logs_of_random_watchers(self):
        words = []
        for seed in range(120):
            chosen = dice(seed)
            scheme = chosen.choice((SQUARES, KEYED, LINE, CROSSED, TWICE))
            log = random_watcher(chosen, scheme).log()
            for many in (len(log), len(log) // 2, len(log) // 3):
                self.fault(None, log[:many], scheme)
            self.fault(len(log), [*log, ("back", len(log))], scheme)
            words += [item[2][0] for entry in log if entry[0] == "tell" for item in entry[2]]
        self.assertGreater(min(words.count(word) for word in ("can", "never", "way")), 30)

    def test_a_fault_at_each_place(self):
        for k in range(len(LOG)):
            for entry in (None, (), ("mark", 0), ("look", 0, (1,)), ("back", 9), ("take in", 5, (1,), True), ("add", 0), ["mark"],
                          ("drop", 0, (2,))):
                self.fault(k, [*LOG[:k], entry, *LOG[k:]])
                self.fault(k, [*LOG[:k], entry])

    def test_forms_of_entries(self):
        for k, entry in enumerate(LOG):
            for wrong in (list(entry), (*entry, None), entry[:-1], (entry,), (entry[0].upper(), *entry[1:]),
                          ((entry[0],), *entry[1:]), ([entry[0]], *entry[1:]), (None, *entry[1:]), ("", *entry[1:]), {}):
                self.fault(k, [*LOG[:k], wrong, *LOG[k + 1:]])
        for word in ("take_in", "takein", "look", "held", "log", "leave", "can", "way", "a" * 200):
            for rest in ((), (0,), (0, (1,)), (0, (1,), True)):
                self.fault(0, [(word, *rest)])

    def test_entries_left_out(self):
        expected = {0: 3, 1: 3, 2: 5, 3: 9, 4: 5, 5: 5, 6: 8, 7: 8, 8: 9, 11: 11, 13: 13, 14: 14}
        for k in range(len(LOG)):
            self.fault(expected.get(k), LOG[:k] + LOG[k + 1:])

    def test_entries_twice(self):
        expected = {0: 7, 1: 15, 6: 7, 7: 8, 15: 16}
        for k in range(len(LOG)):
            self.fault(expected.get(k), LOG[:k] + LOG[k:k + 1] * 2 + LOG[k + 1:])

    def test_entries_exchanged(self):
        expected = {0: 6, 2: 12, 3: 12, 5: 5, 6: 7, 10: 11, 11: 11, 13: 13, 14: 14}
        for k in range(len(LOG) - 1):
            self.fault(expected.get(k), [*LOG[:k], LOG[k + 1], LOG[k], *LOG[k + 2:]])

    def test_add(self):
        for query in (None, UP[:2], (*UP, ()), (UP[0], (), (9,)), [*UP], (((1, (0, 1)),), (), ()), *OTHERS):
            self.fault(1, [("add", NONE), ("add", query)])
        four = (tuple((0, (p,)) for p in range(4)), (), ())
        self.fault(0, [("add", four)], LINE)
        self.fault(None, [("add", (four[0][:3], (), ()))], LINE)
        wide = (((1, (0, 1, 2)), (0, (3, 4)), (0, (5, 6)), (0, (7, 8))), (), ())
        self.fault(1, [("mark",), ("add", wide)], SCHEME)
        self.fault(None, [("mark",), ("add", (wide[0][:3], (), ()))], SCHEME)
        scheme = ((((0, 3), (0, 3)), (0, 1), ()), (((0, 3),) * 4, (0,), (((0, 1), 0), ((2, 3), 0))))
        query = (((1, (0, 1, 2, 3)), (0, (4, 5))), (), (4,))
        self.fault(0, [("add", query)], scheme)
        self.assertIs(is_log(scheme, [("add", query)]), True)

    def test_take_in(self):
        start = LOG[:6]
        for number in (2, -1, True, False, None, "0", (0,), [0], 10 ** 29):
            self.fault(6, [*start, ("take in", number, (0,), True)])
        for output in (None, [0], (), (0, 1), (True,), (None,), ("0",), ((0,),), (10 ** 30 + 1,), (-10 ** 30 - 1,), {}):
            self.fault(6, [*start, ("take in", 0, output, True)])
        for truth in (None, 0, 1, "True", (True,), [], {}):
            self.fault(6, [*start, ("take in", 0, (0,), truth)])
        for output in ((0,), (3,), (10 ** 30,), (-10 ** 30,)):
            for truth in (True, False):
                self.fault(None, [*start, ("take in", 0, output, truth), ("take in", 0, output, truth)])
                self.fault(7, [*start, ("take in", 0, output, truth), ("take in", 0, output, not truth)])
        self.fault(6, [*start, ("take in", 0, (1,), True)])
        self.fault(6, [*start, ("take in", 1, (2,), False)])

    def test_drop(self):
        start = LOG[:6]
        for number in (2, -1, True, False, None, "0", (0,), [0], 10 ** 29):
            self.fault(6, [*start, ("drop", number, (1,))])
        for output in (None, [1], (), (1, 1), (True,), (None,), ("1",), ((1,),), (0,), (2,), (10 ** 31,), {}):
            self.fault(6, [*start, ("drop", 0, output)])
        self.fault(7, [*start, ("drop", 0, (1,)), ("drop", 0, (1,))])
        self.fault(None, [*start, ("drop", 0, (1,)), ("take in", 0, (1,), True), ("drop", 0, (1,)), ("drop", 1, (2,))])

    def test_a_watch_has_ended_behind_a_telling_that_ends_it(self):
        self.fault(None, [*LOG[:7], ("take in", 0, (1,), True)])
        self.fault(7, [*LOG[:7], ("drop", 0, (1,))])
        self.fault(6, [*LOG[:6], ("take in", 0, (1,), True)])
        self.fault(7, [*LOG[:7], ("tell", PUT, LOG[6][2])])
        self.fault(None, [*LOG[:7], ("tell", PUT, LOG[6][2][1:])])
        self.fault(None, [*LOG[:7], ("back", 0), ("drop", 0, (1,))])

    def test_marks(self):
        self.fault(0, [("back", 0)])
        start = [("mark",), ("add", UP), ("mark",), ("add", SECOND), ("mark",)]
        for number, expected in ((0, None), (1, None), (2, None), (3, 5), (-1, 5), (True, 5), (False, 5), (None, 5), ("0", 5)):
            self.fault(expected, [*start, ("back", number)])
        self.fault(6, [*start, ("back", 0), ("take in", 0, (1,), True)])
        self.fault(None, [*start, ("back", 1), ("take in", 0, (1,), True)])
        self.fault(6, [*start, ("back", 1), ("take in", 1, (1,), True)])
        self.fault(6, [*start, ("back", 1), ("back", 2)])
        self.fault(None, [*start, ("back", 1), ("mark",), ("back", 2), ("back", 1), ("back", 1), ("back", 0)])
        self.fault(7, [*start, ("back", 0), ("back", 0), ("back", 1)])

    def test_changes_of_tellings(self):
        for change in (None, (), PUT[:3], [*PUT], ("insert", 0, ("a", 1), ()), ("insert", 0, (3, 1), ()),
                       ("insert", 0, (1, 1), (("a", None, 3),)), ("insert", 0, (True, 1), ()), ("update", 0, (1, 1), ()),
                       ("delete", 0, ("a", 1), ()), *OTHERS):
            self.fault(0, [("tell", change, ())])
            self.fault(6, [*LOG[:6], ("tell", change, LOG[6][2])])
        self.fault(None, [("tell", PUT, ()), ("tell", TAKE, ())])

    def test_papers_are_for_just_the_watches_that_stood(self):
        one, two, three = LOG[6][2]
        for papers in ((), (one,), (one, two), (one, three), (two, three), (one, three, two), (two, one, three), (one, two, three, three),
                       (one, one, two, three), (one, two, three, (1, (3,), WAY)), ((0, (0,), CAN), one, two, three), [one, two, three],
                       (list(one), two, three), (one[:2], two, three), ((*one, ()), two, three), (one[2], two[2], three[2]),
                       ((False, *one[1:]), two, three), ((1, *one[1:]), two, three), (one, two, (True, *three[1:])),
                       (one, two, (1, [2], WAY)), ((0, (True,), CAN), two, three), ((0, (0,), CAN), two, three), ((0, (1, 1), CAN), two, three),
                       ((None, (1,), CAN), two, three), (("0", (1,), CAN), two, three), ((0, None, CAN), two, three), None, {}, 0):
            self.fault(6, [*LOG[:6], ("tell", PUT, papers)])
        # The watch of the other query was dropped, and the one of the first has ended.
        for papers in ((), (three, three), (two, three), (one, three), (one,), ((1, (2,), NEVER),), ((1, (1,), WAY),)):
            self.fault(9, [*LOG[:9], ("tell", PUT, papers)])

    def test_ways_in_the_place_of_decisions_and_the_other_way_round(self):
        one, two, three = LOG[6][2]
        for wrong in (((*one[:2], WAY), two, three), (one, (*two[:2], WAY), three), (one, two, (*three[:2], CAN)),
                      (one, two, (*three[:2], NEVER)), (one, two, (*three[:2], decide_output(PAIRS, SECOND, PUT, (2,))))):
            self.fault(6, [*LOG[:6], ("tell", PUT, wrong)])
        self.fault(12, [*LOG[:12], ("tell", TAKE, ((0, (1,), GONE),))])
        self.fault(12, [*LOG[:12], ("tell", TAKE, ((0, (1,), NEVER),))])
        start = LOG[:1] + [("take in", 0, (1,), True)]
        self.fault(None, [*start, ("tell", TAKE, ((0, (1,), GONE),))])
        self.fault(2, [*start, ("tell", TAKE, ((0, (1,), WAY),))])
        self.fault(None, [*start, ("tell", PUT, ((0, (1,), WAY),))])
        self.fault(2, [*start, ("tell", PUT, ((0, (1,), CAN),))])

    def test_forms_of_ways(self):
        start = LOG[:1] + [("take in", 0, (1,), True)]
        for paper in ((), ("way", ()), ["way"], "way", ("Way",), (("way",),), None, ("way", "way"), {"way": 1}, ("never", []), ("can", (), ())):
            self.fault(2, [*start, ("tell", PUT, ((0, (1,), paper),))])

    def test_papers(self):
        def with_paper(change, paper, number=0, output=(1,)):
            return [*LOG[:2], ("take in", number, output, False), ("tell", change, ((number, output, paper),))]

        self.fault(None, with_paper(PUT, CAN))
        self.fault(None, with_paper(PUT, NEVER, 1))
        # Its trees do not need what is wanted.
        self.fault(None, with_paper(PUT, NEVER, 1, (2,)))
        for change, paper, number, output in (
                (PUT, NEVER, 0, (1,)), (PUT, CAN, 1, (1,)), (PUT, CAN, 0, (0,)), (PUT, CAN, 0, (2,)),
                (("insert", 0, (1, 2), ()), NEVER, 1, (1,)), (("insert", 0, (2, 2), ()), CAN, 0, (1,)), (PUT, ("can", CAN[1], (1,)), 0, (1,)),
                (PUT, ("can", (((1, 1),),), ()), 0, (1,)), (PUT, ("can", NEVER[1]), 1, (1,)), (PUT, ("never", NEVER[1][1:]), 1, (1,)),
                (PUT, ("never", NEVER[1] * 2), 1, (1,)), (PUT, ("never", NEVER[1][::-1]), 1, (1,)), (PUT, (None, NEVER[1]), 1, (1,)),
                (PUT, [*NEVER], 1, (1,)), (PUT, NEVER[1], 1, (1,)), (PUT, (*CAN, ()), 0, (1,)), (PUT, None, 0, (1,))):
            self.fault(3, with_paper(change, paper, number, output))
        for paper in replaced_by_others(CAN):
            expected = None if is_decision(PAIRS, UP, PUT, (1,), paper) else 3
            self.fault(expected, with_paper(PUT, paper))
        for paper in misshapen(NEVER):
            self.fault(3, with_paper(PUT, paper, 1))

    def test_a_part_of_an_entry_changed_at_any_depth(self):
        for k, entry in enumerate(LOG):
            for changed in misshapen(entry):
                value = [*LOG[:k], changed, *LOG[k + 1:]]
                if entry[0] == "take in" and same(changed[:3], entry[:3]):
                    continue
                self.fault(k, value)
        for k in (0, 2, 3, 7, 9, 10):
            for changed in replaced_by_others(LOG[k]):
                value = [*LOG[:k], changed, *LOG[k + 1:]]
                self.assertEqual(first_watch_fault(PAIRS, value), own_fault(PAIRS, value), changed)

    def test_another_truth(self):
        for k, expected in ((2, 6), (4, 6), (5, 6), (14, 15)):
            word, number, output, truth = LOG[k]
            self.fault(expected, [*LOG[:k], (word, number, output, not truth), *LOG[k + 1:]])

    def test_numbers_one_off(self):
        log = filled_watcher().log()
        (at,) = [k for k, entry in enumerate(log) if entry[:2] == ("tell", PUT) and len(entry[2]) == 3]
        trees = log[at][2][1][2][1]
        self.assertEqual(log[at][2][1][2][0], "never")
        wrong = 0
        for t, tree in enumerate(trees):
            for n, (word, told) in enumerate(tree):
                for k, reason in enumerate(told if word == "bar" else []):
                    for j in range(1, len(reason)):
                        changed = copy.deepcopy(log)
                        changed[at][2][1][2][1][t][n][1][k] = (*reason[:j], reason[j] + 1, *reason[j + 1:])
                        expected = own_fault(PAIRS, changed[:at + 1])
                        self.assertEqual(first_watch_fault(PAIRS, changed), expected)
                        wrong += expected == at
        self.assertGreater(wrong, 40)

    def test_any_values_in_the_list(self):
        self.fault(0, list(OTHERS))
        for value in OTHERS:
            self.fault(0, [value])
            self.fault(len(LOG), [*LOG, value])
        self.fault(0, [[[[]]]] * 3000)
        self.fault(1000, [("mark",)] * 1000 + [0] * 1000)


class TestIsWatchLog(Logs):
    def test_any_value(self):
        for value in OTHERS:
            self.assertIs(is_watch_log(PAIRS, value), value == [] and type(value) is list, value)
        for value in (tuple(LOG), {0: LOG}, LOG[0], (LOG,), [LOG], "add", Watcher(PAIRS), {}, None):
            self.assertIs(is_watch_log(PAIRS, value), False)

    def test_what_watchers_tell(self):
        watcher = filled_watcher()
        self.assertIs(is_watch_log(PAIRS, watcher.log()), True)
        self.assertIs(is_watch_log(SQUARES, watcher.log()), False)
        self.assertIs(is_watch_log(PAIRS, LOG), True)

    def test_logs_of_caches(self):
        cache = Cache(PAIRS)
        cache.add(UP)
        self.assertIs(is_watch_log(PAIRS, cache.log()), True)
        cache.take_in(0, [(1,)])
        self.assertIs(is_watch_log(PAIRS, cache.log()), False)
        self.assertIs(is_log(PAIRS, filled_watcher().log()), False)

    def test_told_logs_are_new_at_any_depth(self):
        watcher = filled_watcher()
        log = watcher.log()
        kept = copy.deepcopy(log)
        self.assertGreater(len(lists_in(log)), 20)
        spoilt(log)
        self.assertIs(is_watch_log(PAIRS, log), False)
        self.assertTrue(same(watcher.log(), kept))
        self.assertIs(is_watch_log(PAIRS, watcher.log()), True)


class TestWatchesBehind(Logs):
    def test_each_beginning(self):
        first, second, third = (0, (1,), False), (1, (1,), False), (1, (2,), True)
        expected = [([], []), ([UP], []), ([UP, SECOND], []), ([UP, SECOND], [first]), ([UP, SECOND], [first]),
                    ([UP, SECOND], [first, second]), ([UP, SECOND], [first, second, third]), ([UP, SECOND], [second, third]),
                    ([UP, SECOND], [third]), ([UP, SECOND], [third]), ([UP, SECOND], [third]), ([UP, SECOND], [third]),
                    ([UP, SECOND], [first]), ([UP, SECOND], [first]), ([UP, SECOND, NONE], [first]),
                    ([UP, SECOND, NONE], [first, (2, (), True)]), ([UP, SECOND, NONE], [first]), ([UP, SECOND, NONE], [first])]
        for many, told in enumerate(expected):
            kept = copy.deepcopy(LOG[:many])
            self.assertTrue(same(watches_behind(PAIRS, LOG[:many]), told), many)
            self.assertTrue(same(LOG[:many], kept))

    def test_what_watchers_have(self):
        for seed in range(60):
            chosen = dice(seed)
            scheme = chosen.choice((SQUARES, KEYED, LINE, TWICE))
            watcher = random_watcher(chosen, scheme)
            queries, held = watches_behind(scheme, watcher.log())
            self.assertTrue(same(held, watcher.held()))
            self.assertEqual(queries, watcher.queries_by_hand)

    def test_new_lists(self):
        log = copy.deepcopy(LOG)
        queries, held = watches_behind(PAIRS, log)
        queries.clear()
        held.clear()
        self.assertTrue(same(log, LOG))
        self.assertEqual(watches_behind(PAIRS, log), ([UP, SECOND, NONE], [(0, (1,), False)]))


class Told(Watcher):
    """A watcher beside the list of its queries."""

    queries_by_hand = ()


def random_watcher(chosen, scheme):
    """A watcher beside a database, whose watches are true on it."""
    watcher, queries, marked = Told(scheme), [], []
    databases = list(oracle.all_databases(scheme))
    database = chosen.choice(databases)
    for _ in range(25):
        word = chosen.choice(("add", "take in", "take in", "take in", "drop", "tell", "tell", "mark", "back"))
        if word == "add":
            query = random_query(chosen, scheme, 2, 4)
            queries.append((query[0], query[1][:2], query[2][:2]))
            watcher.add(queries[-1])
        elif word == "take in" and queries:
            number = chosen.randrange(len(queries))
            found = set(oracle.outputs(scheme, queries[number], database))
            output = chosen.choice([*sorted(found), tuple(1 for _ in queries[number][2])])
            watcher.take_in(number, output, output in found)
        elif word == "drop" and watcher.held():
            watcher.drop(*chosen.choice(watcher.held())[:2])
        elif word == "tell":
            change = random_change(chosen, scheme, plain=True)
            watcher.tell(change)
            database = carried_out(scheme, database, change)[0]
        elif word == "mark":
            marked.append((database, list(queries)))
            watcher.mark()
        elif word == "back" and marked:
            number = chosen.randrange(len(marked))
            watcher.back(number)
            del marked[number + 1:]
            database, queries = marked[number][0], list(marked[number][1])
    watcher.queries_by_hand = queries
    return watcher


def own_fault(scheme, value):
    """The number of the first entry that is not right, by calls of a watcher and by the papers of [26]; or None."""
    watcher = Watcher(scheme)
    queries, watches, marks = [], {}, []
    for k, entry in enumerate(value):
        if type(entry) is not tuple or not entry or type(entry[0]) is not str:
            return k
        word, *rest = entry
        try:
            if (word, len(rest)) == ("add", 1):
                watcher.add(*rest)
                queries = queries + rest
            elif (word, len(rest)) == ("take in", 3):
                watcher.take_in(*rest)
                watches = {**watches, (rest[0], rest[1]): rest[2]}
            elif (word, len(rest)) == ("drop", 2):
                watcher.drop(*rest)
                watches = {watch: watches[watch] for watch in watches if watch != tuple(rest)}
            elif (word, len(rest)) == ("mark", 0):
                watcher.mark()
                marks.append((queries, watches))
            elif (word, len(rest)) == ("back", 1):
                watcher.back(*rest)
                marks = marks[:rest[0] + 1]
                queries, watches = marks[rest[0]]
            elif (word, len(rest)) == ("tell", 2):
                watcher.tell(rest[0])
                if not are_right_papers(scheme, queries, watches, *rest):
                    return k
                watches = {item[:2]: watches[item[:2]] for item in rest[1] if item[2][0] != "can"}
            else:
                return k
        except ValueError:
            return k
    return None


def are_right_papers(scheme, queries, watches, change, papers):
    if type(papers) is not tuple or not all(type(item) is tuple and len(item) == 3 for item in papers):
        return False
    if not same([item[:2] for item in papers], sorted(watches)):
        return False
    for number, output, paper in papers:
        if watches[(number, output)] == (change[0] == "insert"):
            if not same(paper, WAY):
                return False
        elif not is_decision(scheme, queries[number], change, output, paper):
            return False
    return True
