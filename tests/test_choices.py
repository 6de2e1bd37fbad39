import copy
import itertools
import unittest

import oracle
from samples import (
    BIG, CROSSED, LINE, PAIRS, SCHEME, SERVED, SQUARES, TWICE, UP, dice, random_query, random_scheme, same)
from watchzones.cases import cases, count_cases
from watchzones.choices import broken, choices_of, claims, standing
from watchzones.widening import widened

# Three parts of one table, and one of another table that is not changed.
THREE = (((0, (0,)), (0, (1,)), (0, (2,))), ((0, 1, 0), (2, 1, -1)), (1,))
FOUR = (((0, (0,)), (0, (1,)), (0, (2,)), (0, (3,))), (), ())


class TestStanding(unittest.TestCase):
    def stands(self, scheme, query, table, case, parts, choices):
        self.assertIn(case, cases(scheme, widened(scheme, query), table))
        self.assertTrue(same(standing(scheme, query, table, case), parts))
        self.assertTrue(same(choices_of(scheme, query, table, case), choices))

    def test_examples(self):
        self.stands(PAIRS, UP, 0, ((0,), (1,)), (1,), [(1, 1)])
        self.stands(PAIRS, UP, 0, ((0, 1), ()), (), [])

    def test_parts_that_take_the_row_do_not_stand(self):
        self.stands(LINE, THREE, 0, ((0, 1, 2), ()), (), [])
        self.stands(LINE, THREE, 0, ((0, 2), (1,)), (1,), [(1, 1, 1)])
        self.stands(LINE, THREE, 0, ((1,), (2, 1, 2)), (0, 2), list(itertools.product((0, 2), repeat=3)))

    def test_parts_that_have_the_row_of_a_lower_one_do_not_stand(self):
        self.stands(LINE, THREE, 0, ((1,), (0, 1, 2)), (0,), [(0, 0, 0)])
        self.stands(LINE, THREE, 0, ((0,), (0, 2, 2)), (1,), [(1, 1, 1)])
        self.stands(LINE, THREE, 0, ((0,), (1, 2, 2)), (1, 2), list(itertools.product((1, 2), repeat=3)))

    def test_splits_with_several_lower_parts(self):
        one = ((((0, 3),), (0,), ()), (((0, 3),), (0,), ()))
        query = (((1, (0,)), (0, (1,)), (0, (2,)), (0, (3,))), (), ())
        for splits, parts in (((0, 0, 0), (1,)), ((0, 1, 1), (1, 3)), ((1, 0, 2), (1, 2)), ((2, 1, 0), (1, 2)), ((0, 2, 0), (1,)),
                              ((1, 2, 1), (1, 2, 3))):
            self.stands(one, query, 1, ((0,), splits), parts, [])
        query = (((1, (0,)), (1, (1,)), (0, (2,)), (0, (3,))), (), ())
        self.stands(one, query, 1, ((1,), (0, 1)), (0, 2), [(0, 0, 2, 2)])
        self.stands(one, query, 1, ((0,), (2, 1)), (1, 2, 3), [(1, 1, 2, 2), (1, 1, 2, 3), (1, 1, 3, 2), (1, 1, 3, 3)])
        self.stands(one, query, 1, ((0, 1), (2,)), (2, 3), [])

    def test_no_standing_part_of_a_table(self):
        self.stands(SCHEME, BIG, 0, ((1,), (1,)), (0,), [])
        self.stands(SCHEME, BIG, 1, ((0,), ()), (1,), [])

    def test_choices_are_about_the_parts_of_the_query_itself(self):
        # Part 2 is appended: it stands for the reference.
        self.stands(SCHEME, SERVED, 0, ((1,), (1, 1)), (0, 2), [(0, 2)])
        self.stands(SCHEME, SERVED, 0, ((2,), (2, 1)), (0, 1), [(0, 1)])
        self.stands(SCHEME, SERVED, 0, ((1, 2), (1,)), (0,), [])
        self.stands(SCHEME, SERVED, 1, ((0,), (0,)), (1,), [])
        query = (((0, (3, 4)), (1, (0, 1, 2)), (1, (5, 1, 1))), (), ())
        self.stands(SCHEME, query, 1, ((1,), (1, 2)), (0, 2, 3), [(0, 2, 2), (3, 2, 2)])
        self.stands(SCHEME, query, 1, ((1,), (0, 2)), (0, 2), [(0, 2, 2)])

    def test_the_places_of_a_split_are_those_of_the_pairs_alone(self):
        query = (((0, (0, 1)), (0, (2, 3)), (0, (4, 5))), (), ())
        for split in range(5):
            expected = (1,) if split == 0 else (1, 2)
            self.assertEqual(standing(SQUARES, query, 0, ((0,), (split, 1, 3))), expected)

    def test_against_the_words(self):
        kinds = {"same": 0, "appended": 0, "none": 0, "several": 0}
        for seed in range(400):
            chosen = dice(seed)
            scheme = chosen.choice((random_scheme(chosen), CROSSED, TWICE, LINE, SQUARES))
            query = random_query(chosen, scheme, 4)
            if len(oracle.wide_parts(scheme, query)) > 4:
                continue
            wide = widened(scheme, query)
            for table in range(len(scheme)):
                if count_cases(scheme, wide, table) > 300:
                    continue
                for case in cases(scheme, wide, table):
                    parts = tuple(oracle.standing_parts(scheme, query, table, case))
                    choices = oracle.all_choices(scheme, query, table, case)
                    self.stands_as(scheme, query, table, case, parts, choices)
                    kinds["same"] += 0 in case[1]
                    kinds["appended"] += any(max(choice) >= len(query[0]) for choice in choices)
                    kinds["none"] += choices == []
                    kinds["several"] += len(choices) > 1
        self.assertGreater(min(kinds.values()), 100, kinds)

    def stands_as(self, scheme, query, table, case, parts, choices):
        kept = copy.deepcopy((scheme, query, table, case))
        self.assertTrue(same(standing(scheme, query, table, case), parts))
        self.assertTrue(same(choices_of(scheme, query, table, case), choices))
        self.assertTrue(same((scheme, query, table, case), kept))

    def test_new_lists(self):
        choices_of(LINE, THREE, 0, ((0,), (1, 2, 2))).clear()
        self.assertEqual(len(choices_of(LINE, THREE, 0, ((0,), (1, 2, 2)))), 8)


class TestClaims(unittest.TestCase):
    def claim(self, scheme, query, choice, *expected):
        self.assertTrue(same(claims(scheme, query, choice), list(expected)), claims(scheme, query, choice))

    def test_examples(self):
        self.claim(PAIRS, UP, (1, 1), (0, 0, 0), (0, 0, 0), (2, 2, 0), (0, 0, 0), (0, 0, 0))
        self.assertEqual(broken((1, 2, 0)), (2, 1, -1))

    def test_places_of_variables_then_constraints_then_output(self):
        query = (((0, (3, 1)), (0, (1, 3)), (0, (2, 3))), ((1, 2, -4), (None, 3, 5), (2, None, 6)), (2, 1, 2))
        parts = {p: query[0][p][1] for p in range(3)}
        for choice in itertools.product(range(3), repeat=3):
            one, two, three = [parts[p] for p in choice]
            self.claim(
                PAIRS, query, choice,
                (two[0], one[1], 0), (one[1], two[0], 0),
                (two[1], one[0], 0), (one[0], two[1], 0), (three[1], one[0], 0), (one[0], three[1], 0),
                (one[1], three[0], -4), (None, one[0], 5), (three[0], None, 6),
                (three[0], 2, 0), (2, three[0], 0), (one[1], 1, 0), (1, one[1], 0), (three[0], 2, 0), (2, three[0], 0))

    def test_a_variable_in_several_places_of_one_part(self):
        query = (((0, (5, 5)), (0, (0, 5))), (), ())
        self.claim(PAIRS, query, (1, 0), (5, 0, 0), (0, 5, 0), (5, 0, 0), (0, 5, 0))
        self.claim(PAIRS, query, (0, 1), *[(5, 5, 0)] * 4)
        three = ((((0, 9),) * 3, (0,), ()),)
        query = (((0, (2, 2, 2)), (0, (0, 1, 3))), ((2, None, 3),), (2,))
        self.claim(three, query, (1, 1), (1, 0, 0), (0, 1, 0), (3, 0, 0), (0, 3, 0), (0, None, 3), (0, 2, 0), (2, 0, 0))
        self.claim(three, query, (0, 0), *[(2, 2, 0)] * 4, (2, None, 3), (2, 2, 0), (2, 2, 0))

    def test_no_claims(self):
        self.claim(SCHEME, SERVED, (0, 2))
        self.claim(LINE, FOUR, (3, 3, 3, 3))

    def test_nodes_of_appended_parts(self):
        query = (SERVED[0], ((3, 4, 7), (None, 1, 0)), (4, 3, 0))
        self.claim(SCHEME, query, (0, 2), (1, 5, 7), (None, 1, 0), (5, 4, 0), (4, 5, 0), (1, 3, 0), (3, 1, 0), (0, 0, 0), (0, 0, 0))
        self.claim(SCHEME, query, (0, 1), (3, 4, 7), (None, 1, 0), (4, 4, 0), (4, 4, 0), (3, 3, 0), (3, 3, 0), (0, 0, 0), (0, 0, 0))

    def test_variables_of_appended_parts_make_no_claims(self):
        # The wide query has variable 1 in part 2, too, but the query itself has it in one place only.
        self.claim(SCHEME, SERVED, (0, 1))
        self.claim(SCHEME, (SERVED[0], (), (1,)), (0, 2), (1, 1, 0), (1, 1, 0))

    def test_against_the_words(self):
        for seed in range(600):
            chosen = dice(seed)
            scheme = chosen.choice((random_scheme(chosen), CROSSED, TWICE, LINE, SQUARES))
            query = random_query(chosen, scheme, 4)
            if len(oracle.wide_parts(scheme, query)) > 4:
                continue
            wide = widened(scheme, query)
            fitting = [[p for p, (table, _) in enumerate(wide[0]) if table == own] for own, _ in query[0]]
            for _ in range(4):
                choice = tuple(chosen.choice(some) for some in fitting)
                kept = copy.deepcopy((scheme, query, choice))
                self.claim(scheme, query, choice, *oracle.choice_claims(scheme, query, choice))
                self.assertTrue(same((scheme, query, choice), kept))

    def test_they_say_that_it_is_a_way_with_the_same_output(self):
        kinds = {True: 0, False: 0}
        for seed in range(600):
            chosen = dice(seed)
            query = random_query(chosen, PAIRS, 3, 4)
            numbers = {variable: chosen.randint(0, 1) for _, inner in query[0] for variable in inner}
            rows = [tuple(numbers[variable] for variable in inner) for _, inner in query[0]]
            for choice in itertools.product(range(len(rows)), repeat=len(rows)):
                hold = all({**numbers, None: 0}[x] - {**numbers, None: 0}[y] <= c for x, y, c in claims(PAIRS, query, choice))
                # Each part has a table of its own with the row that it takes.
                parts = tuple((p, inner) for p, (_, inner) in enumerate(query[0]))
                found = oracle.outputs(PAIRS * len(rows), (parts, *query[1:]), [(rows[p],) for p in choice])
                self.assertEqual(hold, found == [tuple(numbers[x] for x in query[2])])
                kinds[hold] += 1
        self.assertGreater(min(kinds.values()), 200)

    def test_new_lists(self):
        claims(PAIRS, UP, (1, 1)).clear()
        self.assertEqual(len(claims(PAIRS, UP, (1, 1))), 5)


class TestBroken(unittest.TestCase):
    def test_it_holds_just_where_the_claim_does_not(self):
        for x, y in ((0, 1), (3, None), (None, 4), (2, 2)):
            for c in range(-3, 4):
                self.assertTrue(same(broken((x, y, c)), (y, x, -c - 1)))
                self.assertTrue(same(broken(broken((x, y, c))), (x, y, c)))
                for one, other in itertools.product(range(-4, 5), repeat=2):
                    known = {x: one, y: one if x == y else other, None: 0}
                    self.assertNotEqual(*[known[a] - known[b] <= d for a, b, d in ((x, y, c), broken((x, y, c)))])
