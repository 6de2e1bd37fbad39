import copy
import itertools
import unittest

from samples import OTHERS, dice, misshapen, replaced_by_others
from watchzones.systems import is_cycle, is_solution, solved, tightest

EXAMPLE = [(0, 1, 3), (1, None, 4), (None, 0, -9)]
GREAT = 10 ** 29


def random_system(seed, nodes=(None, 0, 1, 5, 31), most=9, span=6):
    chosen = dice(seed)
    some = chosen.sample(nodes, chosen.randint(1, len(nodes)))
    return [(chosen.choice(some), chosen.choice(some), chosen.randint(-span // 2, span))
            for _ in range(chosen.randint(0, most))]


def holds(system, solution):
    known = {**solution, None: 0}
    return all(known[x] - known[y] <= c for x, y, c in system)


def nodes_of(system):
    return {node for x, y, _ in system for node in (x, y)} - {None}


def has_solution(system, width):
    """Try all numbers from -width to width; a system with a solution has one with sums of its constraints."""
    nodes = sorted(nodes_of(system))
    return any(holds(system, dict(zip(nodes, numbers)))
               for numbers in itertools.product(range(-width, width + 1), repeat=len(nodes)))


def is_chain(system, numbers, x, y):
    """Tell whether numbers of constraints lead from x to y with no node in front twice."""
    fronts = [system[i][0] for i in numbers]
    behind = [system[i][1] for i in numbers]
    return (bool(numbers) and fronts == [x, *behind[:-1]] and behind[-1] == y and len(set(fronts)) == len(fronts))


def simple_chains(system, x, y, passed=()):
    for i, (front, behind, _) in enumerate(system):
        if front == x and behind == y:
            yield [i]
        if front == x and behind != y and behind not in passed and behind != x:
            for rest in simple_chains(system, behind, y, (*passed, x)):
                yield [i, *rest]


class TestSolved(unittest.TestCase):
    def solution(self, system):
        word, found = solved(system)
        self.assertEqual(word, "solution")
        self.assertIs(is_solution(system, found), True)
        self.assertEqual(set(found), nodes_of(system))
        self.assertTrue(holds(system, found))
        self.assertTrue(all(type(number) is int for number in found.values()))
        return found

    def cycle(self, system):
        word, found = solved(system)
        self.assertEqual(word, "cycle")
        self.assertIs(type(found), list)
        self.assertIs(is_cycle(system, found), True)
        front = system[found[0]][0]
        self.assertTrue(is_chain(system, found, front, front))
        self.assertLess(sum(system[i][2] for i in found), 0)
        return found

    def test_example(self):
        self.assertEqual(sorted(self.cycle(EXAMPLE)), [0, 1, 2])
        self.solution(EXAMPLE[:2])

    def test_empty(self):
        self.assertEqual(solved([]), ("solution", {}))

    def test_just_not_below_zero(self):
        self.solution([(0, 1, 3), (1, None, 4), (None, 0, -7)])
        self.cycle([(0, 1, 3), (1, None, 4), (None, 0, -8)])
        self.assertEqual(self.solution([(0, None, 4), (None, 0, -4)]), {0: 4})
        self.cycle([(0, None, 4), (None, 0, -5)])

    def test_a_node_with_itself(self):
        for node in (0, 31, None):
            self.solution([(node, node, 0)])
            self.solution([(node, node, 7)])
            self.assertEqual(self.cycle([(node, node, -1)]), [0])
        self.assertEqual(self.solution([(None, None, 0)]), {})
        self.assertEqual(self.cycle([(1, 2, 5), (2, 1, 5), (2, 2, -1)]), [2])

    def test_none_on_either_side(self):
        self.assertLessEqual(self.solution([(3, None, -7)])[3], -7)
        self.assertGreaterEqual(self.solution([(None, 3, -7)])[3], 7)
        self.assertEqual(self.solution([(None, 3, -7), (3, None, 7)]), {3: 7})

    def test_nodes_apart(self):
        self.solution([(0, 1, -1), (2, 3, -1), (3, 4, -GREAT)])
        self.assertEqual(sorted(self.cycle([(0, 1, -1), (2, 3, -1), (3, 2, 0)])), [1, 2])

    def test_great_integers(self):
        self.solution([(0, 1, -GREAT), (1, None, GREAT), (None, 0, 0)])
        self.cycle([(0, 1, -GREAT), (1, None, GREAT), (None, 0, -1)])

    def test_two_constraints_of_the_same_nodes(self):
        self.solution([(0, 1, 5), (1, 0, -2), (0, 1, 2)])
        self.assertEqual(sorted(self.cycle([(0, 1, 5), (1, 0, -2), (0, 1, 1)])), [1, 2])

    def test_long_cycles(self):
        for turn in range(32):
            ring = [(n, (n + 1) % 32, 1) for n in range(32)]
            ring = ring[turn:] + ring[:turn]
            self.assertEqual(len(self.cycle([*ring[:9], (ring[9][0], ring[9][1], -32), *ring[10:]])), 32)
            self.solution([*ring[:9], (ring[9][0], ring[9][1], -31), *ring[10:]])
            self.assertEqual(len(self.cycle([*ring[:9], (ring[9][0], ring[9][1], -32), *ring[10:]][::-1])), 32)

    def test_against_trying_all_numbers(self):
        words = []
        for seed in range(400):
            system = random_system(seed, (None, 0, 7, 31), 6, 4)
            word = solved(system)[0]
            words.append(word)
            self.assertEqual(word == "solution", has_solution(system, 12), system)
            self.solution(system) if word == "solution" else self.cycle(system)
        self.assertGreater(min(words.count("solution"), words.count("cycle")), 50)

    def test_random_systems(self):
        for seed in range(1500):
            system = random_system(seed, (None, *range(12)), 30)
            before = copy.deepcopy(system)
            word, found = solved(system)
            self.solution(system) if word == "solution" else self.cycle(system)
            self.assertEqual(system, before)
            self.assertEqual(solved(list(system)), (word, found))

    def test_new_results(self):
        for system in (EXAMPLE, EXAMPLE[:2], []):
            first = solved(system)[1]
            self.assertIsNot(first, solved(system)[1])
            first.clear()
            self.assertEqual(solved(system), solved(copy.deepcopy(system)))


class TestIsSolution(unittest.TestCase):
    def test_example(self):
        self.assertIs(is_solution(EXAMPLE[:2], {0: 7, 1: 4}), True)

    def test_one_off(self):
        system = [(0, 1, 3), (1, None, 4), (None, 0, -7)]
        self.assertIs(is_solution(system, {0: 7, 1: 4}), True)
        for value in ({0: 8, 1: 4}, {0: 6, 1: 4}, {0: 7, 1: 5}, {0: 7, 1: 3}):
            self.assertIs(is_solution(system, value), False)

    def test_nodes_less_or_more(self):
        system = EXAMPLE[:2]
        for value in ({}, {0: 0}, {1: 4}, {0: 7, 1: 4, 2: 0}, {0: 7, 1: 4, None: 0}, {0: 7, None: 4}, {0: 7, 2: 4}):
            self.assertIs(is_solution(system, value), False, value)
        self.assertIs(is_solution([], {}), True)
        self.assertIs(is_solution([(None, None, 0)], {}), True)
        self.assertIs(is_solution([(None, None, -1)], {}), False)
        self.assertIs(is_solution([], {0: 0}), False)
        self.assertIs(is_solution([], {None: 0}), False)

    def test_order_of_keys_means_nothing(self):
        self.assertIs(is_solution(EXAMPLE[:2], {1: 4, 0: 7}), True)

    def test_truths(self):
        system = [(0, 1, 0), (1, None, 1)]
        self.assertIs(is_solution(system, {0: 1, 1: 1}), True)
        for value in ({False: 1, 1: 1}, {0: 1, True: 1}, {0: True, 1: 1}, {0: 1, 1: True}, {0: False, 1: 0}):
            self.assertIs(is_solution(system, value), False)

    def test_other_kinds(self):
        for value in ([(0, 7), (1, 4)], {"0": 7, 1: 4}, {0: "7", 1: 4}, {0: None, 1: 4}, {(0,): 7, 1: 4}, {0: (7,), 1: 4},
                      {0: [7], 1: 4}, [7, 4], (7, 4)):
            self.assertIs(is_solution(EXAMPLE[:2], value), False)
        for value in OTHERS:
            self.assertIs(is_solution(EXAMPLE[:2], value), False)
            self.assertIs(is_solution([], value), value == {} and isinstance(value, dict))


class TestIsCycle(unittest.TestCase):
    def test_turned_about(self):
        for value in ([0, 1, 2], [1, 2, 0], [2, 0, 1]):
            self.assertIs(is_cycle(EXAMPLE, value), True)
        for value in ([2, 1, 0], [0, 2, 1], [1, 0, 2]):
            self.assertIs(is_cycle(EXAMPLE, value), False)

    def test_steps_left_out_put_in_or_twice(self):
        for value in ([], [0], [0, 1], [1, 2], [0, 0, 1, 2], [0, 1, 1, 2], [0, 1, 2, 0], [0, 1, 2, 2]):
            self.assertIs(is_cycle(EXAMPLE, value), False, value)
        self.assertIs(is_cycle(EXAMPLE, [0, 1, 2] * 2), True)
        self.assertIs(is_cycle([*EXAMPLE, (1, 1, 1)], [0, 3, 1, 2]), True)
        self.assertIs(is_cycle([*EXAMPLE, (1, 1, 2)], [0, 3, 1, 2]), False)

    def test_sum_zero(self):
        system = [(0, 1, 3), (1, 0, -3), (0, 0, 0), (1, 1, -1)]
        for value in ([0, 1], [1, 0], [2], [0, 1, 2], []):
            self.assertIs(is_cycle(system, value), False, value)
        self.assertIs(is_cycle(system, [3]), True)
        self.assertIs(is_cycle(system, [0, 3, 1]), True)

    def test_chains_that_are_not_closed(self):
        system = [(0, 1, -3), (1, 2, -3), (None, None, -1), (1, None, -4)]
        for value in ([0], [0, 1], [1], [0, 3], [3, 2]):
            self.assertIs(is_cycle(system, value), False, value)
        self.assertIs(is_cycle(system, [2]), True)

    def test_numbers_that_are_not_there_and_other_kinds(self):
        loop = [(4, 4, -1), (5, 5, -1)]
        for value, expected in (([0], True), ([1], True), ([2], False), ([-1], False), ([-2], False), ([True], False),
                                ([False], False), ((0,), False), ([None], False), (["0"], False), ([(0,)], False),
                                ([[0]], False), ({0: 0}, False)):
            self.assertIs(is_cycle(loop, value), expected, value)
        for value in OTHERS:
            self.assertIs(is_cycle(EXAMPLE, value), False)
            self.assertIs(is_cycle([], value), False)
        for value in [*misshapen([0, 1, 2]), *replaced_by_others([0, 1, 2])]:
            self.assertIs(is_cycle(EXAMPLE, value), False)


class TestTightest(unittest.TestCase):
    def test_example(self):
        self.assertEqual(tightest(EXAMPLE[:2], 0, None), (7, [0, 1]))

    def test_no_chain(self):
        for x, y in ((None, 0), (1, 0), (None, 1), (0, 2), (2, 0), (2, None), (5, 6)):
            self.assertIs(tightest(EXAMPLE[:2], x, y), None)
        self.assertIs(tightest([], 0, 1), None)
        self.assertIs(tightest([], None, 1), None)

    def test_the_least_of_several(self):
        system = [(0, 1, 9), (0, 2, 3), (2, 1, 4), (0, 1, 8), (1, 0, -7)]
        self.assertEqual(tightest(system, 0, 1), (7, [1, 2]))
        self.assertEqual(tightest(system, 1, 0), (-7, [4]))
        self.assertEqual(tightest(system, 2, 0), (-3, [2, 4]))

    def test_chains_around_of_sum_zero(self):
        system = [(0, 1, 2), (1, 0, -2), (1, 1, 0), (1, 2, 5), (0, 0, 0)]
        self.assertEqual(tightest(system, 0, 2), (7, [0, 3]))
        self.assertEqual(tightest(system, 0, 1), (2, [0]))

    def test_against_all_chains_and_reached_by_a_solution(self):
        some = 0
        for seed in range(700):
            system = random_system(seed, (None, 0, 1, 5, 31), 10)
            if solved(system)[0] == "cycle":
                continue
            before = copy.deepcopy(system)
            for x, y in itertools.permutations((None, 0, 1, 5, 31), 2):
                found = tightest(system, x, y)
                sums = [sum(system[i][2] for i in chain) for chain in simple_chains(system, x, y)]
                if found is None:
                    self.assertEqual(sums, [])
                    continue
                some += 1
                self.assertEqual(found[0], min(sums))
                self.assertEqual(found[0], sum(system[i][2] for i in found[1]))
                self.assertTrue(is_chain(system, found[1], x, y))
                self.assertEqual(solved([*system, (y, x, -found[0])])[0], "solution")
                self.assertEqual(solved([*system, (y, x, -found[0] - 1)])[0], "cycle")
                self.assertIsNot(tightest(system, x, y)[1], found[1])
            self.assertEqual(system, before)
        self.assertGreater(some, 500)
