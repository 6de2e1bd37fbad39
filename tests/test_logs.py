import copy
import unittest

from samples import (
    BIG, OTHERS, SCHEME, dice, misshapen, random_change, random_database, random_query, random_scheme, replaced_by_others,
    same)
from watchzones.cache import Cache
from watchzones.databases import carried_out
from watchzones.logs import first_fault, is_log, replayed
from watchzones.queries import answer

SMALL = (((0, (0, 1)),), ((1, None, 4),), (1, 0))
ALL = (((1, (0, 1, 2)),), (), ())
PUT_SMALL = ("insert", 0, (4, 9), ())
PUT_BIG = ("insert", 1, (6, 3, 500), ())
# Any valid papers will do, not just those that a cache tells.
NEVER = ("never", [[("takes", 1, 0, 1), ("reference apart", 0, 0)], [("takes", 1, 0, 0), ("reference apart", 0, 0)]])
CAN = ("can", ((((3, 7), (4, 4)), ((2, 3, 900),)), (), [(2,)], [(2,), (6,)]))
LOG = [
    ("add", BIG), ("take in", 0, [(5,), (5,)]), ("mark",), ("tell", PUT_SMALL, ((0, NEVER),)),
    ("tell", PUT_BIG, ((0, CAN),)), ("tell", PUT_BIG, ()), ("take in", 0, []), ("mark",), ("back", 1), ("back", 0),
    ("take in", 0, [(5,), (5,)]), ("add", SMALL), ("mark",)]


def filled_cache():
    """A cache whose log has entries of all kinds."""
    cache = Cache(SCHEME)
    for query in (BIG, SMALL, ALL):
        cache.add(query)
    cache.take_in(0, [(5,), (7,)])
    cache.take_in(2, [()])
    cache.mark()
    cache.tell(PUT_SMALL)
    cache.take_in(1, [(0, 1), (1, 1)])
    cache.tell(PUT_BIG)
    cache.mark()
    cache.tell(("insert", 0, (4, 4), ()))
    cache.back(0)
    cache.take_in(0, [(5,), (7,)])
    cache.tell(("delete", 1, (5,), ()))
    return cache


class TestFirstFault(unittest.TestCase):
    def fault(self, number, value, scheme=SCHEME):
        kept = copy.deepcopy(value)
        self.assertEqual(first_fault(scheme, value), number, value)
        self.assertIs(is_log(scheme, value), number is None)
        self.assertTrue(same(value, kept))

    def test_examples(self):
        self.assertEqual(first_fault(SCHEME, [("add", BIG), ("mark",), ("back", 1)]), 2)
        self.assertIs(is_log(SCHEME, [("add", BIG), ("take in", 0, [(5,)]), ("back", 0)]), False)

    def test_logs_and_each_beginning_of_them(self):
        for log in ([], LOG, filled_cache().log()):
            for many in range(len(log) + 1):
                self.fault(None, log[:many])

    def test_told_logs_of_random_caches(self):
        words = []
        for seed in range(40):
            chosen = dice(seed)
            scheme = random_scheme(chosen, 2)
            log = random_log(chosen, scheme)
            self.fault(None, log, scheme)
            self.fault(None, log[:len(log) // 2], scheme)
            self.fault(len(log), [*log, ("back", len(log))], scheme)
            words += [item[1][0] for entry in log if entry[0] == "tell" for item in entry[2]]
        self.assertGreater(min(words.count("can"), words.count("never")), 15)

    def test_a_fault_at_each_place(self):
        for k in range(len(LOG)):
            for entry in (None, (), ("mark", 0), ("look", 0), ("back", 9), ("take in", 5, []), ("add", 0), ["mark"]):
                self.fault(k, [*LOG[:k], entry, *LOG[k:]])
                self.fault(k, [*LOG[:k], entry])

    def test_forms_of_entries(self):
        for entry in LOG:
            k = LOG.index(entry)
            for wrong in (list(entry), (*entry, None), entry[:-1], (entry,), (entry[0].upper(), *entry[1:]),
                          ((entry[0],), *entry[1:]), ([entry[0]], *entry[1:]), (None, *entry[1:]), ("", *entry[1:]), {}):
                self.fault(k, [*LOG[:k], wrong, *LOG[k + 1:]])
        for word in ("take_in", "takein", "look", "held", "watchers", "log", "drop", "can", "a" * 200):
            for rest in ((), (0,), (0, [])):
                self.fault(0, [(word, *rest)])

    def test_entries_left_out(self):
        expected = {0: 0, 1: 2, 2: 7, 4: 4, 7: 7, 9: 9}
        for k in range(len(LOG)):
            self.fault(expected.get(k), LOG[:k] + LOG[k + 1:])

    def test_entries_twice(self):
        for k in range(len(LOG)):
            expected = {4: 5}.get(k)
            self.fault(expected, LOG[:k] + LOG[k:k + 1] * 2 + LOG[k + 1:])

    def test_entries_exchanged(self):
        expected = {0: 0, 3: 4, 4: 4, 5: 6, 7: 7, 8: 9, 9: 9}
        for k in range(len(LOG) - 1):
            self.fault(expected.get(k), [*LOG[:k], LOG[k + 1], LOG[k], *LOG[k + 2:]])

    def test_add(self):
        for query in (None, BIG[:2], (*BIG, ()), (BIG[0], (), (9,)), [*BIG], (((2, (0, 1)),), (), ()), *OTHERS):
            self.fault(1, [("add", SMALL), ("add", query)])
        line = ((((0, 3),), (0,), ()),)
        self.fault(0, [("add", (tuple((0, (p,)) for p in range(4)), (), ()))], line)
        self.fault(None, [("add", (tuple((0, (p,)) for p in range(3)), (), ()))], line)

    def test_take_in(self):
        start = [("add", BIG), ("add", SMALL), ("take in", 1, [(3, 4), (3, 4)])]
        for number in (2, -1, True, False, None, "0", (0,), [0], 10 ** 29):
            self.fault(3, [*start, ("take in", number, [])])
        for rows in (None, (), [()], [(5, 5)], [(6,), (5,)], [(True,)], [[5]], ((5,),), [(5,)] * 1001, [("a",)], {}):
            self.fault(3, [*start, ("take in", 0, rows)])
        for rows in ([], [(5,)], [(5,), (5,)], [(5,)] * 1000):
            self.fault(None, [*start, ("take in", 0, rows)])
            self.fault(4, [*start, ("take in", 0, rows), ("take in", 0, [*rows, (6,)])])
        for rows in ([], [(3, 4)], [(3, 4), (3, 5)]):
            self.fault(3, [*start, ("take in", 1, rows)])

    def test_an_answer_has_ended_behind_a_telling_that_can_alter_it(self):
        self.fault(None, [*LOG[:5], ("take in", 0, [(9,)])])
        self.fault(4, [*LOG[:4], ("take in", 0, [(9,)])])
        self.fault(5, [*LOG[:5], ("tell", PUT_SMALL, ((0, NEVER),))])
        self.fault(None, [*LOG[:5], ("back", 0), ("tell", PUT_SMALL, ((0, NEVER),))])

    def test_marks(self):
        self.fault(0, [("back", 0)])
        start = [("mark",), ("add", BIG), ("mark",), ("add", SMALL), ("mark",)]
        for number, expected in ((0, None), (1, None), (2, None), (3, 5), (-1, 5), (True, 5), (False, 5), (None, 5), ("0", 5)):
            self.fault(expected, [*start, ("back", number)])
        self.fault(6, [*start, ("back", 0), ("take in", 0, [])])
        self.fault(None, [*start, ("back", 1), ("take in", 0, [])])
        self.fault(6, [*start, ("back", 1), ("take in", 1, [])])
        self.fault(6, [*start, ("back", 1), ("back", 2)])
        self.fault(None, [*start, ("back", 1), ("mark",), ("back", 2), ("back", 1), ("back", 1), ("back", 0)])
        self.fault(7, [*start, ("back", 0), ("back", 0), ("back", 1)])

    def test_changes_of_tellings(self):
        for change in (None, (), PUT_SMALL[:3], [*PUT_SMALL], ("insert", 0, ("a", 9), ()), ("insert", 0, (4, 10), ()),
                       ("insert", 0, (4, 9), (("a", None, 3),)), ("insert", 0, (True, 9), ()), ("update", 0, (4, 9), ()),
                       ("delete", 0, ("a",), ()), *OTHERS):
            self.fault(0, [("tell", change, ())])
            self.fault(3, [*LOG[:3], ("tell", change, ((0, NEVER),))])
        self.fault(None, [("tell", PUT_SMALL, ()), ("tell", ("delete", 1, (3,), ()), ())])

    def test_papers_are_for_just_the_queries_that_have_an_answer(self):
        for papers in ((), ((1, NEVER),), ((0, NEVER), (0, NEVER)), ((0, NEVER), (1, NEVER)), ((False, NEVER),), [(0, NEVER)],
                       ([0, NEVER],), ((0,),), ((0, NEVER, ()),), (0, NEVER), (NEVER,), None, {0: NEVER}, ((-1, NEVER),),
                       ((None, NEVER),), (("0", NEVER),)):
            self.fault(3, [*LOG[:3], ("tell", PUT_SMALL, papers)])
        start = [("add", BIG), ("add", BIG), ("add", BIG), ("take in", 2, []), ("take in", 0, [])]
        self.fault(None, [*start, ("tell", PUT_SMALL, ((0, NEVER), (2, NEVER)))])
        for papers in (((2, NEVER), (0, NEVER)), ((0, NEVER),), ((2, NEVER),), ((0, NEVER), (1, NEVER)),
                       ((0, NEVER), (1, NEVER), (2, NEVER)), ((0, NEVER), (0, NEVER)), ((0, NEVER), (2, NEVER), (2, NEVER)), ()):
            self.fault(5, [*start, ("tell", PUT_SMALL, papers)])
        self.fault(None, [*start, ("tell", PUT_BIG, ((0, CAN), (2, CAN))), ("tell", PUT_BIG, ())])

    def test_papers(self):
        def with_paper(change, paper):
            return [*LOG[:3], ("tell", change, ((0, paper),))]

        self.fault(None, with_paper(PUT_BIG, CAN))
        self.fault(None, with_paper(PUT_SMALL, NEVER))
        for change, paper in ((PUT_SMALL, CAN), (PUT_BIG, NEVER), (("delete", 1, (6,), ()), CAN),
                              (("insert", 1, (6, 3, 499), ()), CAN), (("insert", 1, (7, 3, 500), ()), CAN),
                              (("delete", 0, (5,), ()), ("never", [])), (PUT_SMALL, ("never", NEVER[1][::-1])),
                              (PUT_SMALL, ("can", NEVER[1])), (PUT_BIG, ("never", CAN[1])), (PUT_SMALL, ("none", NEVER[1])),
                              (PUT_SMALL, (None, NEVER[1])), (PUT_SMALL, (["never"], NEVER[1])), (PUT_SMALL, [*NEVER]),
                              (PUT_SMALL, (*NEVER, ())), (PUT_SMALL, NEVER[:1]), (PUT_SMALL, NEVER[1]), (PUT_SMALL, ()),
                              (PUT_SMALL, None), (PUT_SMALL, ("never", NEVER[1][:1])), (PUT_SMALL, ("never", NEVER[1] * 2))):
            self.fault(3, with_paper(change, paper))
        for paper in replaced_by_others(NEVER):
            self.fault(3, with_paper(PUT_SMALL, paper))
        for paper in misshapen(CAN):
            self.fault(3, with_paper(PUT_BIG, paper))
        database, values, before, after = CAN[1]
        for found in ((database, values, after, before), (database, values, before, before), (database, (1,), before, after),
                      (((), ()), values, before, after), (database, values, [], [(6,)]), (database, values, before, after, 0),
                      ((database[0], ((2, 3, 900), (6, 3, 500))), values, before, after), database, None):
            self.fault(3, with_paper(PUT_BIG, ("can", found)))

    def test_a_part_of_an_entry_changed_at_any_depth(self):
        # Each place is given another kind; what a number means may happen to stay right, so kinds alone are changed.
        for k, entry in enumerate(LOG):
            for changed in misshapen(entry):
                self.fault(k, [*LOG[:k], changed, *LOG[k + 1:]])
            for changed in replaced_by_others(entry):
                found = first_fault(SCHEME, [*LOG[:k], changed, *LOG[k + 1:]])
                self.assertTrue(found is None or found >= k)

    def test_numbers_one_off(self):
        log = filled_cache().log()
        self.assertEqual(log[6][0], "tell")
        number, (word, bars) = log[6][2][0]
        for k, reason in enumerate(bars[0]):
            for j in range(1, len(reason)):
                for step in (-1, 1):
                    changed = copy.deepcopy(log)
                    changed[6][2][0][1][1][0][k] = (*reason[:j], reason[j] + step, *reason[j + 1:])
                    self.fault(6, changed)

    def test_any_values_in_the_list(self):
        self.fault(0, list(OTHERS))
        for value in OTHERS:
            self.fault(0, [value])
            self.fault(len(LOG), [*LOG, value])
        self.fault(0, [[[[]]]] * 3000)
        self.fault(1000, [("mark",)] * 1000 + [0] * 1000)


class TestIsLog(unittest.TestCase):
    def test_any_value(self):
        for value in OTHERS:
            self.assertIs(is_log(SCHEME, value), value == [] and type(value) is list, value)
        for value in (tuple(LOG), {0: LOG}, LOG[0], (LOG,), [LOG], "add", Cache(SCHEME), {}, None):
            self.assertIs(is_log(SCHEME, value), False)

    def test_what_caches_tell(self):
        cache = filled_cache()
        self.assertIs(is_log(SCHEME, cache.log()), True)
        self.assertIs(is_log(SCHEME[:1], cache.log()), False)
        self.assertIs(is_log(SCHEME, LOG), True)


class TestReplayed(unittest.TestCase):
    def test_example(self):
        self.assertEqual(replayed(SCHEME, [("add", BIG), ("mark",), ("take in", 0, []), ("back", 0)]), ([BIG], [None]))

    def test_each_beginning(self):
        rows = [(5,), (5,)]
        expected = [([], []), ([BIG], [None]), ([BIG], [rows]), ([BIG], [rows]), ([BIG], [rows]), ([BIG], [None]),
                    ([BIG], [None]), ([BIG], [[]]), ([BIG], [[]]), ([BIG], [[]]), ([BIG], [rows]), ([BIG], [rows]),
                    ([BIG, SMALL], [rows, None]), ([BIG, SMALL], [rows, None])]
        for many, told in enumerate(expected):
            kept = copy.deepcopy(LOG[:many])
            self.assertTrue(same(replayed(SCHEME, LOG[:many]), told), many)
            self.assertTrue(same(LOG[:many], kept))

    def test_what_caches_have(self):
        for seed in range(30):
            chosen = dice(seed)
            scheme = random_scheme(chosen, 2)
            cache = random_cache(chosen, scheme)
            queries, answers = replayed(scheme, cache.log())
            self.assertEqual([cache.look(number) for number in range(len(queries))], answers)
            self.assertEqual(cache.held(), [number for number, rows in enumerate(answers) if rows is not None])

    def test_new_lists(self):
        log = copy.deepcopy(LOG)
        queries, answers = replayed(SCHEME, log)
        queries.clear()
        answers[0].append(None)
        answers.clear()
        self.assertEqual(log, LOG)
        self.assertEqual(replayed(SCHEME, log), ([BIG, SMALL], [[(5,), (5,)], None]))
        log = [("add", BIG), ("add", BIG), ("take in", 0, LOG[1][2]), ("take in", 1, LOG[1][2])]
        answers = replayed(SCHEME, log)[1]
        self.assertEqual(len({id(rows) for rows in [*answers, LOG[1][2]]}), 3)


def random_cache(chosen, scheme):
    """A cache beside a database, with answers that are those of the database."""
    cache, queries, marked = Cache(scheme), [], []
    database = random_database(chosen, scheme)
    for _ in range(25):
        word = chosen.choice(("add", "take in", "take in", "tell", "tell", "mark", "back"))
        if word == "add":
            queries.append(random_query(chosen, scheme, 2))
            cache.add(queries[-1])
        elif word == "take in" and queries:
            number = chosen.randrange(len(queries))
            cache.take_in(number, answer(scheme, queries[number], database))
        elif word == "tell":
            change = random_change(chosen, scheme, plain=True)
            cache.tell(change)
            database = carried_out(scheme, database, change)[0]
        elif word == "mark":
            marked.append((database, list(queries)))
            cache.mark()
        elif word == "back" and marked:
            number = chosen.randrange(len(marked))
            cache.back(number)
            del marked[number + 1:]
            database, queries = marked[number][0], list(marked[number][1])
    return cache


def random_log(chosen, scheme):
    return random_cache(chosen, scheme).log()
