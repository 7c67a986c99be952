"""Point 9: the first break of the rule for three, and of two."""

import unittest
from random import Random

from carrytower.groups import Rounds
from carrytower.tables import Table, break_of_three, break_of_two
from helper import (
    add_places, all_tuples, any_carries, any_over, even_towers, paired_over, ruled_carries, ruled_over, stack, walk_three,
    walk_three_over, walk_two,
)

SHAPES = (
    ((), ()), ((3,), ()), ((), (2, 2)), ((2,), (2,)), ((4,), (2,)), ((2,), (2, 2)), ((3,), (3,)), ((2, 4), (4,)),
    ((4,), (2, 4)), ((5,), (7,)), ((16,), (9,)), ((2, 2, 2, 2), (2, 2, 2)), ((3,), (3, 3)),
)


def made(lower, upper, carries):
    return Table(Rounds(lower), Rounds(upper), carries)


def pair_carries(lower, upper, a):
    """Carries x_0 times y_1 times a: the rule for three holds, but they are not even."""
    members = all_tuples(upper)
    return {(x, y): tuple(x[0] * y[1] * k % n for k, n in zip(a, lower)) for x in members for y in members}


class Walked(unittest.TestCase):
    """What is told, held against a walk over all elements."""

    def held(self, lower, upper, carries):
        table = made(lower, upper, carries)
        threes, twos = walk_three(lower, upper, carries), walk_two(upper, carries)
        self.assertEqual(break_of_three(table), min(threes) if threes else None)
        self.assertEqual(break_of_two(table), min(twos) if twos else None)
        self.assertEqual(table.carries(), carries)
        return bool(threes), bool(twos)

    def test_tables_that_keep_both_rules(self):
        for lower, upper in SHAPES:
            for seed in range(3):
                self.assertEqual(self.held(lower, upper, ruled_carries(lower, upper, seed)), (False, False))

    def test_tables_that_keep_the_rule_for_three_alone(self):
        for lower, upper, a in (((2,), (2, 2), (1,)), ((4,), (2, 4), (2,)), ((3,), (3, 3), (1,)), ((2, 3), (3, 3), (0, 2))):
            pair, ruled = pair_carries(lower, upper, a), ruled_carries(lower, upper, 1)
            self.assertEqual(self.held(lower, upper, pair), (False, True))
            both = {key: add_places(lower, pair[key], ruled[key]) for key in pair}
            self.assertEqual(self.held(lower, upper, both), (False, True))

    def test_tables_that_are_even_alone(self):
        for lower, upper in (((2,), (3,)), ((5,), (7,)), ((4,), (2, 4)), ((3,), (3, 3))):
            carries = any_carries(lower, upper, 9)
            even = {(x, y): carries[(min(x, y), max(x, y))] for x, y in carries}
            self.assertEqual(self.held(lower, upper, even), (True, False))

    def test_tables_without_any_rule(self):
        for lower, upper in SHAPES:
            for seed in range(3):
                self.held(lower, upper, any_carries(lower, upper, seed))

    def test_every_table_of_two_over_two(self):
        keys = [((k,), (m,)) for k in range(2) for m in range(2)]
        seen = {self.held((2,), (2,), {key: (bits >> at & 1,) for at, key in enumerate(keys)}) for bits in range(16)}
        self.assertEqual(seen, {(False, False), (True, False), (True, True)})

    def test_tables_broken_at_one_place(self):
        for lower, upper in (((2,), (2,)), ((3,), (3,)), ((4,), (2, 2)), ((2, 2), (5,))):
            carries = ruled_carries(lower, upper, 4)
            for key in carries:
                for other in all_tuples(lower):
                    if other != carries[key]:
                        self.held(lower, upper, {**carries, key: other})

    def test_great_tables_broken_at_one_place(self):
        for lower, upper in (((16,), (9,)), ((2, 8), (3, 3)), ((4, 4), (2, 4))):
            carries = ruled_carries(lower, upper, 5)
            for key in sorted(carries)[::7] + sorted(carries)[-2:]:
                other = add_places(lower, carries[key], (1,) * len(lower))
                self.assertTrue(self.held(lower, upper, {**carries, key: other})[0])

    def test_tables_broken_at_more_places(self):
        chance = Random(6)
        for lower, upper in (((3,), (2, 2)), ((4,), (6,)), ((2, 4), (3, 3))):
            carries = ruled_carries(lower, upper, 6)
            for many in (2, 3, 5):
                for _ in range(6):
                    broken = {key: chance.choice(all_tuples(lower)) for key in chance.sample(sorted(carries), many)}
                    self.held(lower, upper, {**carries, **broken})

    def test_the_carry_of_noughts_may_be_any(self):
        for lower, upper in (((4,), (2, 2)), ((3, 3), (4,)), ((5,), ())):
            nought = (0,) * len(upper)
            for shift in all_tuples(lower):
                carries = {key: add_places(lower, carried, shift)
                           for key, carried in ruled_carries(lower, upper, 7).items()}
                self.assertEqual(self.held(lower, upper, carries), (False, False))
                self.assertEqual(made(lower, upper, carries).carry(nought, nought), carries[(nought, nought)])


class Told(unittest.TestCase):
    """What is told, held against breaks found by hand."""

    def test_the_last_place_breaks_first_at_a_lesser_triple(self):
        carries = {((k,), (m,)): (0,) for k in range(2) for m in range(2)}
        table = made((3,), (2,), {**carries, ((0,), (1,)): (1,)})
        self.assertEqual(break_of_three(table), ((0,), (0,), (1,)))
        self.assertEqual(break_of_two(table), ((0,), (1,)))

    def test_the_column_carry(self):
        table = made((10,), (9,), {((k,), (m,)): (int(k + m >= 9),) for k in range(9) for m in range(9)})
        self.assertIsNone(break_of_three(table))
        self.assertIsNone(break_of_two(table))

    def test_three_that_hangs_on_the_order_of_its_places(self):
        carries = {(x, y): (x[0] * y[1],) for x in all_tuples((2, 2)) for y in all_tuples((2, 2))}
        table = made((2,), (2, 2), carries)
        self.assertIsNone(break_of_three(table))
        self.assertEqual(break_of_two(table), ((0, 1), (1, 0)))

    def test_answers_are_tuples(self):
        table = made((2,), (3,), any_carries((2,), (3,), 9))
        self.assertIs(type(break_of_three(table)), tuple)
        self.assertIs(type(break_of_two(table)), tuple)


class OverTowers(unittest.TestCase):
    """The lower group may be a tower whose table is even."""

    def held(self, lower, upper, carries):
        table = Table(lower.group(), Rounds(upper), carries)
        threes, twos = walk_three_over(lower, upper, carries), walk_two(upper, carries)
        self.assertEqual(break_of_three(table), min(threes) if threes else None)
        self.assertEqual(break_of_two(table), min(twos) if twos else None)
        return bool(threes), bool(twos)

    def lowers(self):
        return [lower for lower in even_towers() if len(lower.members) <= 16]

    def test_tables_that_keep_both_rules(self):
        for seed, lower in enumerate(self.lowers()):
            for upper in ((), (2,), (2, 2), (3, 3)):
                self.assertEqual(self.held(lower, upper, ruled_over(lower, upper, seed)), (False, False))

    def test_tables_that_keep_the_rule_for_three_alone(self):
        for seed, lower in enumerate(self.lowers()):
            for a in [a for a in lower.members if lower.order(a) == 2]:
                for upper in ((2, 2), (4, 2)):
                    self.assertEqual(self.held(lower, upper, paired_over(lower, upper, a, seed)), (False, True))

    def test_tables_without_any_rule(self):
        for seed, lower in enumerate(self.lowers()):
            for upper in ((), (2,), (2, 2), (3,), (8,)):
                self.held(lower, upper, any_over(lower, upper, seed))

    def test_tables_broken_at_one_place(self):
        for lower, upper in ((stack((2,), [(2,)], 1), (3,)), (stack((2,), [(2,), (2,)], 3), (2,))):
            carries = ruled_over(lower, upper, 8)
            seen = {self.held(lower, upper, {**carries, key: other})[0] for key in carries for other in lower.members}
            self.assertEqual(seen, {True, False})

    def test_tables_broken_at_more_places(self):
        chance = Random(9)
        for lower in self.lowers():
            for upper in ((2, 2), (5,)):
                carries = ruled_over(lower, upper, 9)
                for many in (2, 4):
                    broken = {key: chance.choice(lower.members) for key in chance.sample(sorted(carries), many)}
                    self.held(lower, upper, {**carries, **broken})

    def test_the_carry_of_noughts_may_be_any(self):
        lower = stack((2,), [(2,), (2,)], 3)
        for shift in lower.members:
            carries = {key: lower.sums[(carried, shift)] for key, carried in ruled_over(lower, (2, 2), 7).items()}
            self.assertEqual(self.held(lower, (2, 2), carries), (False, False))


if __name__ == "__main__":
    unittest.main()
