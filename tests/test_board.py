import copy
import unittest

import oracle
from samples import (
    BIG, CROSSED, DATA, KEYED, LINE, OTHERS, PAIRS, SCHEME, SECOND, SERVED, SQUARES, TWICE, UP, dice, lists_in, misshapen,
    random_change, random_query, replaced_by_others, same, spoilt)
from watchzones.board import Board
from watchzones.cases import count_cases
from watchzones.databases import carried_out, is_change, is_database
from watchzones.errors import InvalidChange, InvalidQuery, TooManyCases, UnknownMark, UnknownQuery, WatchzonesError
from watchzones.queries import is_query
from watchzones.watchererrors import FullTable, Hindered, InvalidOutput, NotWatched, TooWide
from watchzones.watcherlogs import is_watch_log, watches_behind

TWO = (((0, (0, 1)),), (), (1, 0))
NONE = (((0, (0, 1)),), (), ())
ROWS = (((1, 0), (1, 1)),)
LONG = ((((0, 99), (0, 9)), (0,), ()), (((0, 99), (0, 99)), (0,), (((1,), 0),)))
GREATEST = 10 ** 30


def put(*row):
    return ("insert", 0, row, ())


def take(*key):
    return ("delete", 0, key, ())


def filled():
    """A board with four queries and subscriptions of three of them."""
    board = Board(PAIRS, ROWS)
    for query in (UP, SECOND, TWO, NONE):
        board.add(query)
    for number, output in ((2, (0, 1)), (0, (1,)), (0, (2,)), (3, ()), (1, (1,))):
        board.subscribe(number, output)
    return board


SUBSCRIBED = [(0, (1,), True), (0, (2,), False), (1, (1,), False), (2, (0, 1), True), (3, (), True)]


class Boards(unittest.TestCase):
    def state(self, board):
        counts = []
        try:
            while True:
                counts.append(board.counts(len(counts)))
        except UnknownQuery:
            pass
        return (board.tables(), board.subscribed(), counts, board.waste(), board.watch_log(), len(board))

    def raises(self, kind, held, call, *arguments):
        with self.assertRaises(kind) as caught:
            call(*arguments)
        self.assertIs(type(caught.exception), kind)
        self.assertTrue(same(vars(caught.exception), held), (vars(caught.exception), held))

    def unchanged(self, kind, held, call, *arguments):
        board = call.__self__
        before, kept = self.state(board), copy.deepcopy(arguments)
        self.raises(kind, held, call, *arguments)
        self.assertTrue(same(self.state(board), before))
        self.assertTrue(same(arguments, kept))

    def consistent(self, board, scheme):
        """The watcher's log is one, and leads to the subscriptions; these and the numbers are those of the database."""
        log = board.watch_log()
        self.assertIs(is_watch_log(scheme, log), True)
        queries, watches = watches_behind(scheme, log)
        self.assertTrue(same(watches, board.subscribed()))
        self.assertEqual(len(board), len(watches))
        self.assertIs(is_database(scheme, board.tables()), True)
        for number, query in enumerate(queries):
            found = oracle.outputs(scheme, query, board.tables())
            self.assertEqual(board.counts(number), {output: found.count(output) for output in found})
        for number, output, truth in watches:
            self.assertIs(output in board.counts(number), truth)
            self.assertIs((number, output) in board, True)
        return queries


class TestCalls(Boards):
    def test_examples(self):
        board = Board(PAIRS, (((1, 0),),))
        self.assertEqual(
            [board.add(UP), board.subscribe(0, (1,)), board.subscribe(0, (2,)), len(board), (0, (2,)) in board],
            [0, True, False, 2, True])
        self.assertEqual(board.carry(("insert", 0, (1, 2), ())), (None, [], []))
        self.assertEqual(board.carry(("delete", 0, (1, 0), ())), (None, [], []))
        self.assertEqual(
            [board.waste(), board.carry(("insert", 0, (2, 2), ())), board.carry(("delete", 0, (0, 0), ())), board.subscribed()],
            [1, (None, [(0, [(2,)], [])], [(0, (2,), True)]), (("missing",), [], []), [(0, (1,), True), (0, (2,), True)]])

    def test_a_new_board(self):
        board = Board(SCHEME, DATA)
        self.assertTrue(same(self.state(board), (DATA, [], [], 0, [], 0)))
        self.assertIs((0, (1,)) in board, False)
        self.assertEqual(board.carry(("insert", 0, (4, 9), ())), (None, [], []))
        self.assertEqual(board.watch_log(), [("tell", ("insert", 0, (4, 9), ()), ())])

    def test_queries_are_numbered_as_they_come(self):
        board = Board(PAIRS, ROWS)
        self.assertEqual([board.add(query) for query in (UP, UP, TWO)], [0, 1, 2])
        self.assertEqual([board.counts(number) for number in range(3)], [{(1,): 3}, {(1,): 3}, {(0, 1): 1, (1, 1): 1}])

    def test_subscriptions(self):
        board = filled()
        self.assertTrue(same(board.subscribed(), SUBSCRIBED))
        self.assertEqual(len(board), 5)
        self.consistent(board, PAIRS)
        self.assertIs(board.subscribe(2, (2, 2)), False)
        self.assertIs(board.subscribe(2, (1, 1)), True)
        self.assertIs(board.subscribe(0, (GREATEST,)), False)
        self.assertEqual(len(board), 8)

    def test_a_subscription_that_stands_already(self):
        board = filled()
        before = self.state(board)
        for number, output, truth in SUBSCRIBED:
            self.assertIs(board.subscribe(number, output), truth)
        self.assertTrue(same(self.state(board), before))

    def test_leave(self):
        board = filled()
        self.assertIs(board.leave(0, (2,)), None)
        self.assertIs(board.leave(3, ()), None)
        self.assertTrue(same(board.subscribed(), [SUBSCRIBED[0], *SUBSCRIBED[2:4]]))
        self.assertEqual((len(board), (0, (2,)) in board, (0, (1,)) in board), (3, False, True))
        self.assertEqual(board.watch_log()[-2:], [("drop", 0, (2,)), ("drop", 3, ())])
        self.assertIs(board.subscribe(0, (2,)), False)
        self.consistent(board, PAIRS)

    def test_who_has_left_is_told_no_news(self):
        board = filled()
        board.leave(0, (2,))
        self.assertEqual(board.carry(put(2, 2)), (None, [(0, [(2,)], []), (1, [(2,)], []), (2, [(2, 2)], [])], []))
        self.assertIs(board.subscribe(0, (2,)), True)

    def test_moves_and_news(self):
        board = filled()
        self.assertEqual(board.carry(put(2, 2)), (None, [(0, [(2,)], []), (1, [(2,)], []), (2, [(2, 2)], [])], [(0, (2,), True)]))
        self.assertEqual(board.carry(put(1, 2)), (None, [(1, [(1,)], []), (2, [(2, 1)], [])], [(1, (1,), True)]))
        self.assertEqual(board.carry(take(1, 0)), (None, [(2, [], [(0, 1)])], [(2, (0, 1), False)]))
        self.assertEqual(board.carry(take(1, 1)), (None, [(2, [], [(1, 1)])], []))
        self.assertEqual(board.carry(take(1, 2)), (
            None, [(0, [], [(1,)]), (1, [], [(1,)]), (2, [], [(2, 1)])], [(0, (1,), False), (1, (1,), False)]))
        self.assertEqual(board.carry(take(2, 2)), (
            None, [(0, [], [(2,)]), (1, [], [(2,)]), (2, [], [(2, 2)]), (3, [], [()])], [(0, (2,), False), (3, (), False)]))
        self.assertEqual(board.tables(), ((),))
        self.consistent(board, PAIRS)

    def test_a_change_that_does_nothing(self):
        board = filled()
        for change, hindrance in ((put(1, 1), ("key", (1, 1))), (take(2, 2), ("missing",))):
            before = self.state(board)
            self.assertTrue(same(board.carry(change), (hindrance, [], [])))
            self.assertTrue(same(self.state(board), before))
        board = Board(SCHEME, DATA)
        board.add(BIG)
        board.subscribe(0, (5,))
        for change, hindrance in ((("insert", 1, (6, 4, 0), ()), ("reference", 0)), (("delete", 0, (3,), ()), ("referred", 1, (5, 3, 600))),
                                  (("insert", 1, (5, 4, 0), ()), ("key", (5, 3, 600))), (("insert", 0, (3, 9), ()), ("key", (3, 5)))):
            before = self.state(board)
            self.assertTrue(same(board.carry(change), (hindrance, [], [])))
            self.assertTrue(same(self.state(board), before))

    def test_numbers_that_change_while_the_set_stays(self):
        board = Board(PAIRS, ROWS)
        board.add(NONE)
        board.subscribe(0, ())
        self.assertEqual(board.carry(put(2, 2)), (None, [], []))
        self.assertEqual((board.counts(0), board.waste()), ({(): 3}, 0))
        self.assertEqual(board.carry(take(2, 2)), (None, [], []))
        # A deletion can take the output away, so the watch has ended for nothing.
        self.assertEqual((board.counts(0), board.waste()), ({(): 2}, 1))
        self.assertEqual(board.carry(take(1, 1)), (None, [], []))
        self.assertEqual(board.carry(take(1, 0)), (None, [(0, [], [()])], [(0, (), False)]))
        self.assertEqual((board.counts(0), board.waste()), ({}, 2))
        self.assertEqual(board.carry(put(0, 0)), (None, [(0, [()], [])], [(0, (), True)]))
        self.assertEqual((board.counts(0), board.waste()), ({(): 1}, 2))

    def test_waste_of_a_false_watch(self):
        board = Board(PAIRS, ((),))
        board.add((((0, (0, 1)), (0, (1, 2))), ((0, 1, -1),), (0,)))
        board.subscribe(0, (0,))
        board.subscribe(0, (1,))
        self.assertEqual(board.carry(put(0, 1)), (None, [], []))
        self.assertEqual(board.waste(), 1)
        self.assertEqual(board.carry(put(1, 2)), (None, [(0, [(0,)], [])], [(0, (0,), True)]))
        self.assertEqual(board.waste(), 2)

    def test_ended_watches_are_taken_in_again_in_ascending_order(self):
        board = filled()
        many = len(board.watch_log())
        board.carry(put(1, 2))
        board.carry(take(1, 1))
        log = board.watch_log()[many:]
        self.assertEqual([entry[:2] for entry in log if entry[0] == "tell"], [("tell", put(1, 2)), ("tell", take(1, 1))])
        self.assertEqual([item[:2] for item in log[0][2]], [watch[:2] for watch in SUBSCRIBED])
        self.assertTrue(same(log[1:2] + log[3:], [("take in", 1, (1,), True), ("take in", 0, (1,), True), ("take in", 3, (), True)]))

    def test_the_log_of_the_watcher(self):
        board = filled()
        self.assertTrue(same(board.watch_log(), [
            ("add", UP), ("add", SECOND), ("add", TWO), ("add", NONE), ("take in", 2, (0, 1), True), ("take in", 0, (1,), True),
            ("take in", 0, (2,), False), ("take in", 3, (), True), ("take in", 1, (1,), False)]))
        board.mark()
        board.leave(3, ())
        board.back(0)
        board.subscribe(0, (1,)), board.tables(), board.counts(0), board.waste(), board.subscribed(), len(board)
        self.assertEqual(board.watch_log()[9:], [("mark",), ("drop", 3, ()), ("back", 0)])
        self.consistent(board, PAIRS)

    def test_marks(self):
        board = filled()
        self.assertEqual([board.mark(), board.mark()], [0, 1])
        first = self.state(board)
        board.carry(take(1, 0))
        self.assertEqual(board.waste(), 2)
        self.assertEqual(board.mark(), 2)
        second = self.state(board)
        self.assertEqual(board.add(TWO), 4)
        board.subscribe(4, (2, 2))
        board.leave(0, (1,))
        board.carry(put(2, 2))
        self.assertIs(board.back(2), None)
        self.like(board, second)
        self.raises(UnknownQuery, {"number": 4}, board.counts, 4)
        self.assertIs((4, (2, 2)) in board, False)
        self.assertIs(board.back(0), None)
        self.like(board, first)
        self.raises(UnknownMark, {"number": 1}, board.back, 1)
        self.assertEqual(board.mark(), 1)
        self.consistent(board, PAIRS)

    def like(self, board, state):
        """All but the log is as it was."""
        now = self.state(board)
        self.assertTrue(same((*now[:4], now[5]), (*state[:4], state[5])))
        self.consistent(board, PAIRS)

    def test_back_to_the_same_mark_again(self):
        board = filled()
        board.mark()
        state = self.state(board)
        for change in (put(2, 2), take(1, 1), put(0, 0)):
            board.carry(change)
            board.leave(0, (1,))
            board.subscribe(0, (0,))
            board.back(0)
            self.like(board, state)


class TestCarryAll(Boards):
    def test_what_carry_returns(self):
        changes = [put(2, 2), put(1, 2), take(1, 0), take(1, 1), take(1, 2), take(2, 2), put(0, 0), put(0, 2)]
        one, other = filled(), filled()
        self.assertTrue(same(one.carry_all(changes), [other.carry(change) for change in changes]))
        self.assertTrue(same(self.state(one), self.state(other)))
        self.consistent(one, PAIRS)

    def test_none(self):
        board = filled()
        before = self.state(board)
        self.assertEqual(board.carry_all([]), [])
        self.assertTrue(same(self.state(board), before))

    def test_a_row_that_comes_and_goes(self):
        board = filled()
        self.assertEqual(board.carry_all([put(2, 2), take(2, 2), put(2, 2)])[2], board.carry_all([take(2, 2), put(2, 2)])[1])
        self.assertEqual(board.tables(), (((1, 0), (1, 1), (2, 2)),))

    def test_all_or_none(self):
        for changes, number, hindrance in (
                ([take(2, 2)], 0, ("missing",)), ([put(2, 2), put(2, 2)], 1, ("key", (2, 2))),
                ([take(1, 1), put(0, 0), take(1, 1), take(0, 1)], 2, ("missing",)),
                ([put(1, 0), put(1, 1)], 0, ("key", (1, 0))), ([put(0, 0), put(0, 1), put(0, 2), put(1, 1)], 3, ("key", (1, 1)))):
            self.unchanged(Hindered, {"number": number, "hindrance": hindrance}, filled().carry_all, changes)
        board = Board(SCHEME, DATA)
        board.add(BIG)
        self.unchanged(Hindered, {"number": 1, "hindrance": ("referred", 1, (6, 4, 0))}, Board(SCHEME, (((4, 4),), ((6, 4, 0),))).carry_all,
                       [("insert", 0, (5, 5), ()), ("delete", 0, (4,), ())])
        self.unchanged(Hindered, {"number": 2, "hindrance": ("reference", 0)}, board.carry_all,
                       [("insert", 0, (4, 4), ()), ("insert", 1, (6, 4, 0), ()), ("insert", 1, (7, 5, 0), ())])
        self.assertEqual(len(board.carry_all([("insert", 0, (4, 4), ()), ("insert", 1, (6, 4, 500), ()), ("delete", 1, (5,), ())])), 3)
        self.consistent(board, SCHEME)

    def test_invalid_changes(self):
        board = filled()
        right = [put(2, 2), take(1, 1)]
        wrong = [value for value in OTHERS if value != []]
        wrong += [tuple(right), {0: right}, [right], right[0], [*right, None], [None, *right], [*right, put(3, 0)], [*right, put("a", 0)],
                  [("insert", 0, (1, 2), (("a", None, 1),))], [put(2, 2)[:3]], [take(1, 1), take("b", 1)], [[*put(2, 2)]]]
        wrong += [[put(0, 0), take(0, 0)] * 4 + [put(0, 0)], [take(2, 2)] * 9, *misshapen(right)]
        wrong += [value for value in replaced_by_others(right) if type(value) is not list or not all(
            is_change(PAIRS, change) for change in value)]
        for value in wrong:
            self.unchanged(InvalidChange, {"value": value}, board.carry_all, value)
        self.assertEqual(len(board.carry_all([put(0, 0), take(0, 0)] * 4)), 8)

    def test_the_error_that_is_named_first(self):
        full = (tuple((n, 0) for n in range(29)), tuple((n, 0) for n in range(28)))
        board = Board(LONG, full)
        self.unchanged(InvalidChange, {"value": [put(50, 1), None]}, board.carry_all, [put(50, 1), None])
        self.unchanged(InvalidChange, {"value": [take(50), None]}, board.carry_all, [take(50), None])
        # The first change for which one of them is due counts, and for it the full table is named first.
        self.unchanged(FullTable, {"table": 0}, board.carry_all, [put(50, 1), take(50)])
        self.unchanged(Hindered, {"number": 0, "hindrance": ("missing",)}, board.carry_all, [take(50), put(50, 1)])
        self.unchanged(FullTable, {"table": 0}, board.carry_all, [put(5, 1), take(50)])
        self.unchanged(FullTable, {"table": 1}, board.carry_all, [
            ("insert", 1, (50, 5), ()), ("insert", 1, (51, 5), ()), take(50)])
        self.unchanged(Hindered, {"number": 1, "hindrance": ("key", (4, 0))}, board.carry_all, [
            ("delete", 1, (3,), ()), ("insert", 1, (4, 5), ())])
        self.unchanged(FullTable, {"table": 0}, board.carry_all, [take(5), put(50, 1), put(51, 1), take(77)])
        self.unchanged(Hindered, {"number": 3, "hindrance": ("missing",)}, board.carry_all, [take(5), put(50, 1), take(50), take(77)])
        self.assertEqual(board.carry_all([take(5), put(50, 1), take(50), put(51, 1)]), [(None, [], [])] * 4)


class TestErrors(Boards):
    def test_add(self):
        board = filled()
        wrong = [*OTHERS, *misshapen(UP), *[value for value in replaced_by_others(UP) if not is_query(PAIRS, value)]]
        for value in wrong:
            self.unchanged(InvalidQuery, {"value": value}, board.add, value)
        board = Board(SCHEME, DATA)
        query = (((1, (0, 1, 2)), (0, (3, 4)), (0, (5, 6)), (0, (7, 8))), (), (3,))
        self.unchanged(TooWide, {"query": query}, board.add, query)
        board = Board(LINE, ((),))
        four = (tuple((0, (p,)) for p in range(4)), (), (0,))
        self.unchanged(TooManyCases, {"number": 945}, board.add, four)
        self.assertEqual(board.add((four[0][:3], (), ())), 0)
        keys = (((0, 3), (0, 3)), (0, 1), ())
        scheme = (keys, (((0, 3),) * 4, (0,), (((0, 1), 0), ((2, 3), 0))))
        query = (((1, (0, 1, 2, 3)), (0, (4, 5))), (), (4,))
        self.unchanged(TooManyCases, {"number": 16 * 253}, Board(scheme, ((), ())).add, query)

    def test_unknown_queries(self):
        board = filled()
        wrong = [value for value in OTHERS if not (type(value) is int and 0 <= value < 4)]
        for value in [*wrong, 4, -1, 10 ** 29, True, False, "0", (0,), [0]]:
            for output in ((1,), None):
                self.unchanged(UnknownQuery, {"number": value}, board.subscribe, value, output)
                self.unchanged(UnknownQuery, {"number": value}, board.leave, value, output)
            self.unchanged(UnknownQuery, {"number": value}, board.counts, value)

    def test_invalid_outputs(self):
        board = filled()
        wrong = [value for value in OTHERS if not (type(value) is tuple and len(value) == 2 and all(type(n) is int for n in value))]
        wrong += [*misshapen((0, 1)), (1,), (1, 2, 3), [1, 2], (1, None), (GREATEST + 1, 0), (0, -GREATEST - 1), {1: 2}]
        for value in wrong:
            self.unchanged(InvalidOutput, {"value": value}, board.subscribe, 2, value)
            self.unchanged(InvalidOutput, {"value": value}, board.leave, 2, value)

    def test_not_watched(self):
        board = filled()
        for number, output in ((0, (0,)), (1, (2,)), (2, (1, 1)), (0, (GREATEST,))):
            self.unchanged(NotWatched, {"number": number, "output": output}, board.leave, number, output)
        board.leave(0, (1,))
        self.unchanged(NotWatched, {"number": 0, "output": (1,)}, board.leave, 0, (1,))

    def test_carry(self):
        board = filled()
        wrong = [*OTHERS, *misshapen(put(1, 1)), *misshapen(take(1, 1))]
        wrong += [value for value in replaced_by_others(put(2, 1)) if not is_change(PAIRS, value)]
        wrong += [put(1, "a"), take("d", 1), ("insert", 0, ("a", "a"), (("a", None, 3),)), ("delete", 0, (1, 1), (("a", None, 3),)),
                  put(1), put(3, 1), ("delete", 1, (1, 1), ()), put(1, 1)[:3], [put(2, 2)]]
        for value in wrong:
            self.unchanged(InvalidChange, {"value": value}, board.carry, value)

    def test_back(self):
        board = filled()
        self.unchanged(UnknownMark, {"number": 0}, board.back, 0)
        board.mark(), board.mark()
        for value in [*[value for value in OTHERS if not (type(value) is int and 0 <= value < 2)], 2, -1, True, False, "0", None]:
            self.unchanged(UnknownMark, {"number": value}, board.back, value)
        self.assertIs(board.back(1), None)

    def test_errors_hold_copies(self):
        value = [[1, [2]]]
        for call in (filled().add, filled().carry, filled().carry_all, lambda value: filled().subscribe(0, value),
                     lambda value: filled().leave(0, value)):
            with self.assertRaises(WatchzonesError) as caught:
                call(value)
            value[0][1].append(3)
            self.assertEqual(caught.exception.value, [[1, [2]]])
            value[0][1].pop()


class TestFullTables(Boards):
    def board(self, many, other=0):
        board = Board(LONG, (tuple((n, n % 3) for n in range(many)), tuple((n, 1) for n in range(other))))
        board.add((((0, (0, 1)),), (), (1,)))
        board.add((((1, (0, 1)), (0, (1, 2))), (), (2,)))
        for n in range(3):
            board.subscribe(0, (n,))
        return board

    def test_29_rows(self):
        board = self.board(29)
        self.unchanged(FullTable, {"table": 0}, board.carry, put(50, 1))
        # Even where the insertion would do nothing.
        self.unchanged(FullTable, {"table": 0}, board.carry, put(5, 1))
        self.assertEqual(board.carry(take(40)), (("missing",), [], []))
        self.assertEqual(board.carry(take(5)), (None, [], []))
        self.assertEqual(board.carry(put(50, 7)), (None, [(0, [(7,)], [])], []))
        self.unchanged(FullTable, {"table": 0}, board.carry, put(5, 2))
        self.consistent(board, LONG)

    def test_28_rows(self):
        board = self.board(28, 29)
        self.unchanged(FullTable, {"table": 1}, board.carry, ("insert", 1, (60, 1), ()))
        self.assertEqual(board.carry(put(5, 1)), (("key", (5, 2)), [], []))
        self.assertEqual(board.carry(put(50, 1))[0], None)
        self.unchanged(FullTable, {"table": 0}, board.carry, put(51, 1))
        self.assertEqual(board.carry(take(1)), (("referred", 1, (0, 1)), [], []))
        self.assertEqual(board.carry(("delete", 1, (28,), ())), (None, [], []))
        self.consistent(board, LONG)

    def test_other_tables_do_not_count(self):
        board = self.board(29)
        self.assertEqual(board.carry(("insert", 1, (60, 1), ())), (None, [(1, [(1,)], [])], []))
        self.unchanged(FullTable, {"table": 0}, board.carry, put(50, 1))

    def test_invalid_ahead_of_full(self):
        board = self.board(29)
        for value in (put(100, 1), put(50, "a"), put(50), ("insert", 0, (50, 1), None)):
            self.unchanged(InvalidChange, {"value": value}, board.carry, value)

    def test_it_goes_back_too(self):
        board = self.board(28)
        board.mark()
        board.carry(put(50, 1))
        self.unchanged(FullTable, {"table": 0}, board.carry, put(51, 1))
        board.back(0)
        self.assertEqual(board.carry(put(51, 1))[0], None)


class TestLenAndIn(Boards):
    def test_values_of_every_kind(self):
        board = filled()
        there = [watch[:2] for watch in SUBSCRIBED]
        for watch in there:
            self.assertIs(watch in board, True)
            for value in misshapen(watch):
                self.assertIs(value in board, False, value)
            for value in replaced_by_others(watch):
                self.assertIs(value in board, any(same(value, known) for known in there), value)
        for value in [*OTHERS, *SUBSCRIBED, there, (there,), UP, 0, (0, 1), (0, [1]), (0, {}), ([0], (1,)), (0, (1, [2])), ({}, {}),
                      (True, (1,)), (1, (True,)), (False, (1,)), (0, (True,)), ((0, (1,)),), (0, (0,)), (4, (1,)), (0, (10 ** 31,))]:
            self.assertIs(value in board, False, value)
            self.assertIs(value not in board, True)

    def test_len(self):
        board = filled()
        self.assertEqual(len(board), 5)
        board.subscribe(0, (1,))
        self.assertEqual(len(board), 5)
        board.leave(0, (1,))
        self.assertEqual(len(board), 4)
        board.carry(put(2, 2))
        self.assertEqual(len(board), 4)
        self.assertEqual(len(Board(PAIRS, ((),))), 0)

    def test_queries_apart(self):
        board = Board(PAIRS, ROWS)
        board.add(UP), board.add(UP)
        board.subscribe(1, (1,))
        self.assertEqual([(0, (1,)) in board, (1, (1,)) in board], [False, True])


class TestCopies(Boards):
    def test_what_was_told_may_be_changed_afterwards(self):
        board = filled()
        board.mark()
        spoilt(board.carry(put(2, 2)))
        spoilt(board.carry_all([put(1, 2), take(1, 0)]))
        before = copy.deepcopy(self.state(board))
        for told in (board.subscribed(), board.counts(0), board.counts(2), board.watch_log(), board.tables()):
            spoilt(told)
        self.assertTrue(same(self.state(board), before))
        self.consistent(board, PAIRS)

    def test_what_was_handed_in_may_be_changed_afterwards(self):
        board = filled()
        changes = [put(2, 2), take(1, 0)]
        board.carry_all(changes)
        before = copy.deepcopy(self.state(board))
        spoilt(changes)
        self.assertTrue(same(self.state(board), before))

    def test_no_two_lists_are_one(self):
        board = filled()
        told = [board.carry(put(2, 2)), board.carry(put(2, 1)), board.carry(take(1, 1)), board.carry_all([put(1, 2), take(1, 0)]),
                board.subscribed(), board.subscribed(), board.counts(0), board.counts(0), board.watch_log(), board.watch_log()]
        found = lists_in(told)
        self.assertEqual(len({id(some) for some in found}), len(found))

    def test_arguments_are_as_before(self):
        arguments = (PAIRS, ROWS, UP, SECOND, TWO, put(2, 2))
        before = copy.deepcopy(arguments)
        filled().carry(put(2, 2))
        self.assertTrue(same(arguments, before))


class Record:
    """What a board is to have, by hand, reckoned anew from the database at each change."""

    def __init__(self, scheme, database, databases):
        self.scheme, self.database, self.databases = scheme, database, databases
        self.queries, self.truths, self.waste, self.marks, self.movements = [], {}, 0, [], {}

    def sets(self):
        return [set(oracle.outputs(self.scheme, query, self.database)) for query in self.queries]

    def ends(self, change, watch, truth):
        query = self.queries[watch[0]]
        if query not in self.movements:
            self.movements[query] = oracle.Movements(self.scheme, self.databases, query)
        return self.movements[query].ends(change, watch[1], truth)

    def carry(self, change):
        before = self.sets()
        behind, hindrance = carried_out(self.scheme, self.database, change)
        if hindrance is not None:
            return (hindrance, [], [])
        self.database = behind
        after = self.sets()
        moves = [(k, sorted(new - old), sorted(old - new)) for k, (old, new) in enumerate(zip(before, after)) if old != new]
        news = []
        for watch, truth in sorted(self.truths.items()):
            now = watch[1] in after[watch[0]]
            if now != truth:
                news.append((*watch, now))
                self.truths[watch] = now
            elif self.ends(change, watch, truth):
                self.waste += 1
        return (None, moves, news)

    def mark(self):
        self.marks.append(copy.deepcopy((self.database, self.queries, self.truths, self.waste)))
        return len(self.marks) - 1

    def back(self, number):
        self.database, self.queries, self.truths, self.waste = copy.deepcopy(self.marks[number])
        del self.marks[number + 1:]


class TestHistories(Boards):
    """Calls one after the other beside a record by hand."""

    def step(self, chosen, board, record):
        word = chosen.choice(("add", "subscribe", "subscribe", "leave", "carry", "carry", "carry", "all", "mark", "back"))
        if word == "add" and len(record.queries) < 4:
            query = random_query(chosen, record.scheme, 2, 4)
            query = (query[0], query[1][:chosen.randint(0, 1)], query[2][:chosen.randint(0, 2)])
            self.assertEqual(board.add(query), len(record.queries))
            record.queries.append(query)
        elif word == "subscribe" and record.queries:
            number = chosen.randrange(len(record.queries))
            found = sorted(record.sets()[number])
            output = chosen.choice([*found, tuple(chosen.randint(0, 1) for _ in record.queries[number][2])])
            self.assertIs(board.subscribe(number, output), output in found)
            record.truths[(number, output)] = output in found
        elif word == "leave" and record.truths:
            watch = chosen.choice(sorted(record.truths))
            self.assertIs(board.leave(*watch), None)
            del record.truths[watch]
        elif word == "carry":
            change = random_change(chosen, record.scheme, plain=True)
            told = board.carry(change)
            self.assertTrue(same(told, record.carry(change)))
            self.kinds["nothing" if told[0] else "news" if told[2] else "moves" if told[1] else "quiet"] += 1
        elif word == "all":
            self.step_of_several(chosen, board, record)
        elif word == "mark":
            self.assertEqual(board.mark(), record.mark())
        elif word == "back" and record.marks:
            number = chosen.randrange(len(record.marks))
            self.assertIs(board.back(number), None)
            record.back(number)

    def step_of_several(self, chosen, board, record):
        changes = [random_change(chosen, record.scheme, plain=True) for _ in range(chosen.randint(0, 3))]
        database = record.database
        for number, change in enumerate(changes):
            database, hindrance = carried_out(record.scheme, database, change)
            if hindrance is not None:
                self.unchanged(Hindered, {"number": number, "hindrance": hindrance}, board.carry_all, changes)
                self.kinds["none"] += 1
                return
        self.assertTrue(same(board.carry_all(changes), [record.carry(change) for change in changes]))
        self.kinds["all"] += len(changes) > 1

    def test_random_histories(self):
        self.kinds = {"nothing": 0, "news": 0, "moves": 0, "quiet": 0, "none": 0, "all": 0}
        databases = {scheme: list(oracle.all_databases(scheme)) for scheme in (SQUARES, KEYED, LINE, CROSSED, TWICE)}
        waste = 0
        for seed in range(300):
            chosen = dice(seed)
            scheme = chosen.choice((SQUARES, KEYED, LINE) if seed % 4 else (CROSSED, TWICE))
            database = chosen.choice(databases[scheme])
            board, record = Board(scheme, database), Record(scheme, database, databases[scheme])
            for k in range(25):
                self.step(chosen, board, record)
                self.assertTrue(same(board.tables(), record.database))
                self.assertTrue(same(board.subscribed(), sorted((*watch, truth) for watch, truth in record.truths.items())))
                self.assertEqual(board.waste(), record.waste)
                self.assertEqual(len(board), len(record.truths))
                if k % 4 == 0:
                    self.assertEqual(self.consistent(board, scheme), record.queries)
            waste += board.waste()
        self.assertGreater(min(self.kinds.values()), 10, self.kinds)
        self.assertGreater(waste, 40)

    def test_wide_schemes(self):
        # Queries of the document's scheme; the numbers are those of the database at each moment.
        for seed in range(15):
            chosen = dice(seed)
            board = Board(SCHEME, DATA)
            for query in (BIG, SERVED, (((0, (0, 1)), (1, (2, 0, 3))), ((None, 1, -2),), (1,))):
                board.add(query)
            board.subscribe(0, (5,)), board.subscribe(0, (7,)), board.subscribe(1, ()), board.subscribe(2, (5,))
            for _ in range(12):
                low = chosen.randint(3, 5)
                board.carry(chosen.choice([
                    ("insert", 0, (low, chosen.randint(0, 9)), ()), ("insert", 1, (chosen.randint(5, 7), low, chosen.randint(499, 501)), ()),
                    ("delete", 0, (low,), ()), ("delete", 1, (chosen.randint(5, 7),), ())]))
            self.consistent(board, SCHEME)
            self.assertLessEqual(max(count_cases(SCHEME, query, 0) for query in (BIG, SERVED)), 300)
