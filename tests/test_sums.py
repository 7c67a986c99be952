"""Points 2, 23, 24: tables added, taken often, turned about; plain tables and pair tables."""

import unittest

from carrytower.errors import NoCount, NoElement, NoHead, NoLower, NoPair, NotLike, NoUpper
from carrytower.groups import Rounds
from carrytower.sums import about, both, often, pair_table, plain_table
from carrytower.tables import Table, break_of_three, break_of_two
from carrytower.weighings import kind_of, odds, weighing
from helper import (
    SHAPES, Model, add_places, all_tuples, any_build, any_carries, even_towers, many_times, odd_things, odds_for, stack,
    two_rounds, uneven_towers, walk_three, walk_two,
)

SIXTY = 123456789012345678901234567890123456789012345678901234567890
NUMBERS = [0, 1, 2, 3, 7, 16, 144, -1, -2, -5, -144, SIXTY, -SIXTY, 10 ** 60 - 1, 1 - 10 ** 60, 10 ** 59]
NO_ROUND = [-1, -2, -3, 10 ** 59, -(10 ** 59), 10 ** 60 - 1]


def made(lower, upper, carries):
    return Table(Rounds(lower), Rounds(upper), dict(carries))


def all_carries():
    """Carries with and without the rule for three."""
    for seed, (lower, upper) in enumerate(SHAPES):
        yield lower, upper, any_carries(lower, upper, seed), any_carries(lower, upper, seed + 1)
        yield lower, upper, any_build(lower, upper, seed).carries, any_build(lower, upper, seed + 1).carries
        yield lower, upper, any_carries(lower, upper, seed), any_build(lower, upper, seed + 2).carries


class Sums(unittest.TestCase):
    """Point 23."""

    def test_both(self):
        for lower, upper, one, other in all_carries():
            first, second = made(lower, upper, one), made(lower, upper, other)
            told = both(first, second)
            wanted = {key: add_places(lower, one[key], other[key]) for key in one}
            self.assertIsInstance(told, Table)
            self.assertEqual(told.carries(), wanted)
            self.assertIs(told.lower, first.lower)
            self.assertIs(told.upper, first.upper)
            self.assertEqual(both(second, first).carries(), wanted)
            self.assertEqual(both(first, first).carries(), {key: many_times(lower, 2, one[key]) for key in one})
            self.assertEqual([first.carries(), second.carries()], [one, other])

    def test_often(self):
        for lower, upper, one, other in all_carries():
            table = made(lower, upper, one)
            for n in NUMBERS:
                told = often(table, n)
                self.assertIsInstance(told, Table)
                self.assertEqual(told.carries(), {key: many_times(lower, n, one[key]) for key in one})
                self.assertTrue(told.lower.like(table.lower) and told.upper.like(table.upper))
            self.assertEqual(table.carries(), one)

    def test_about(self):
        for lower, upper, one, other in all_carries():
            table = made(lower, upper, one)
            told = about(table)
            self.assertIsInstance(told, Table)
            self.assertEqual(told.carries(), {(x, y): one[(y, x)] for x, y in one})
            self.assertTrue(told.lower.like(table.lower) and told.upper.like(table.upper))
            self.assertEqual(about(told).carries(), one)
            self.assertEqual(table.carries(), one)

    def test_the_rule_for_three_stays(self):
        for seed, (lower, upper) in enumerate(SHAPES):
            one, other = any_build(lower, upper, seed).table(), any_build(lower, upper, seed + 1).table()
            for told in (both(one, other), often(one, 3), often(one, -SIXTY), about(one)):
                self.assertEqual(walk_three(lower, upper, told.carries()), [])
                self.assertIsNone(break_of_three(told))

    def test_not_like(self):
        shapes = [((4,), (2, 2)), ((2, 2), (2, 2)), ((4,), (4,)), ((4,), (2, 2, 2)), ((), (2, 2)), ((4,), ()), ((8,), (2, 2)),
                  ((2, 4), (2, 4)), ((4, 2), (2, 4)), ((2, 4), (4, 2))]
        for at, first in enumerate(shapes):
            for second in shapes[:at] + shapes[at + 1:]:
                one = any_build(*first, 1).table()
                for other in (any_build(*second, 1).table(), made(*second, any_carries(*second, 2))):
                    with self.assertRaises(NotLike):
                        both(one, other)

    def test_what_is_told_is_ones_own(self):
        lower, upper, one, other = next(all_carries())
        for told in (both(made(lower, upper, one), made(lower, upper, other)), about(made(lower, upper, one))):
            kept = told.carries()
            told.carries().clear()
            self.assertEqual(told.carries(), kept)


def columns_of(lower, upper):
    """Some lists of elements, one for each round."""
    below = all_tuples(lower)
    return [[below[(step * (at + 1) + start) % len(below)] for at in range(len(upper))]
            for step, start in ((0, 0), (1, 0), (3, 1), (5, 2), (7, 15))]


def no_groups():
    """A lower and an upper group that may be none, with the refusal of each two."""
    uneven, even, great = uneven_towers()[0].group(), even_towers()[3].group(), stack((2,), [(9,)]).group()
    bad_lowers = [Rounds((17,)), Rounds((2, 9)), Rounds((144,)), uneven, great]
    bad_uppers = [Rounds((10,)), Rounds((2, 5)), Rounds((144,)), even, uneven]
    for lower in bad_lowers:
        for upper in bad_uppers + [Rounds((2, 2)), Rounds(())]:
            yield lower, upper, NoLower
    for lower in (Rounds((2,)), Rounds(()), Rounds((16,))):
        for upper in bad_uppers:
            yield lower, upper, NoUpper


class Plain(unittest.TestCase):
    """Point 24, plain tables."""

    def test_carry_by_carry(self):
        for lower, upper in SHAPES:
            for columns in columns_of(lower, upper):
                below, above, handed = Rounds(lower), Rounds(upper), list(columns)
                table = plain_table(below, above, handed)
                self.assertIsInstance(table, Table)
                self.assertEqual(handed, columns)
                model = Model(lower)
                wanted = {
                    (x, y): model.total([c for c, k, m, n in zip(columns, x, y, upper) if k + m >= n])
                    for x in all_tuples(upper) for y in all_tuples(upper)
                }
                self.assertEqual(table.carries(), wanted)
                self.assertIs(table.lower, below)
                self.assertIs(table.upper, above)
                handed.clear()
                self.assertEqual(table.carries(), wanted)

    def test_rules_weighings_and_odds(self):
        for lower, upper in SHAPES:
            for columns in columns_of(lower, upper):
                table = plain_table(Rounds(lower), Rounds(upper), columns)
                self.assertEqual(walk_three(lower, upper, table.carries()), [])
                self.assertEqual(walk_two(upper, table.carries()), [])
                self.assertIsNone(break_of_two(table))
                self.assertEqual([weighing(table, i) for i in range(len(upper))], columns)
                for i, j in two_rounds(upper):
                    self.assertEqual(odds(table, i, j), (0,) * len(lower))

    def test_by_hand(self):
        table = plain_table(Rounds((10,)), Rounds((3, 2)), [(4,), (9,)])
        for x, y, carried in (
            ((2, 0), (1, 0), 4), ((1, 1), (1, 1), 9), ((2, 1), (2, 1), 3), ((1, 0), (1, 1), 0), ((0, 0), (2, 1), 0),
            ((2, 1), (1, 0), 4), ((0, 1), (2, 1), 9),
        ):
            self.assertEqual(table.carry(x, y), (carried,))

    def test_no_groups(self):
        for lower, upper, refusal in no_groups():
            for carried in ([], [None], [(0,)], [(0,), (0,)], [(0,)] * 300):
                with self.assertRaises(refusal):
                    plain_table(lower, upper, carried)

    def test_no_count_ahead_of_no_element(self):
        for lower, upper in SHAPES:
            nought = (0,) * len(lower)
            for many in [k for k in range(len(upper) + 3) if k != len(upper)] + [300]:
                for thing in (nought, None, True, [0]):
                    handed = [thing] * many
                    with self.assertRaises(NoCount):
                        plain_table(Rounds(lower), Rounds(upper), handed)
                    self.assertEqual(handed, [thing] * many)

    def test_no_element(self):
        for lower, upper in (((4,), (2,)), ((2, 2), (2, 2)), ((), (2,)), ((2,), (2, 2, 2))):
            nought = (0,) * len(lower)
            near = [list(nought), nought + (0,), lower or (0,), nought[1:] + (True,), nought[1:] + (-1,), (0, 0, 0, 0, 0)]
            for at in range(len(upper)):
                for thing in odd_things() + near:
                    handed = [nought] * at + [thing] + [nought] * (len(upper) - at - 1)
                    with self.assertRaises(NoElement):
                        plain_table(Rounds(lower), Rounds(upper), handed)


class Pairs(unittest.TestCase):
    """Point 24, pair tables."""

    def test_carry_by_carry(self):
        uneven = 0
        for lower, upper in SHAPES:
            for i, j in two_rounds(upper):
                for a in odds_for(lower, upper, i, j):
                    below, above = Rounds(lower), Rounds(upper)
                    table = pair_table(below, above, i, j, a)
                    self.assertIsInstance(table, Table)
                    wanted = {(x, y): many_times(lower, x[i] * y[j], a) for x in all_tuples(upper) for y in all_tuples(upper)}
                    self.assertEqual(table.carries(), wanted)
                    self.assertIs(table.lower, below)
                    self.assertIs(table.upper, above)
                    uneven += break_of_two(table) is not None
        self.assertGreater(uneven, 10)

    def test_rule_weighings_and_odds(self):
        for lower, upper in SHAPES:
            nought = (0,) * len(lower)
            for i, j in two_rounds(upper):
                for a in odds_for(lower, upper, i, j):
                    table = pair_table(Rounds(lower), Rounds(upper), i, j, a)
                    self.assertEqual(walk_three(lower, upper, table.carries()), [])
                    self.assertEqual([weighing(table, k) for k in range(len(upper))], [nought] * len(upper))
                    for k in range(len(upper)):
                        for m in range(len(upper)):
                            wanted = a if (k, m) == (i, j) else many_times(lower, -1, a) if (k, m) == (j, i) else nought
                            self.assertEqual(odds(table, k, m), wanted)
                    self.assertEqual(kind_of(table)[0], (nought,) * len(upper))

    def test_no_groups(self):
        for lower, upper, refusal in no_groups():
            for i, j in ((0, 1), (1, 0), (0, 0), (-1, 10 ** 59)):
                for a in ((0,), None, (1,)):
                    with self.assertRaises(refusal):
                        pair_table(lower, upper, i, j, a)

    def test_no_head_ahead_of_no_element_and_no_pair(self):
        for lower, upper in SHAPES:
            many = len(upper)
            pairs = [(i, j) for i in range(many) for j in range(i + 1)]
            for wrong in NO_ROUND + [many, many + 1]:
                pairs += [(k, wrong) for k in [*range(many), wrong]] + [(wrong, k) for k in range(many)]
            pairs += [(-2, -1), (-1, 0), (many, many + 1), (0, many), (-many, many - 1)]
            for i, j in pairs:
                for a in [(0,) * len(lower), None, True] + all_tuples(lower)[-1:]:
                    with self.assertRaises(NoHead):
                        pair_table(Rounds(lower), Rounds(upper), i, j, a)

    def test_no_element_ahead_of_no_pair(self):
        for lower, upper in (((4,), (2, 2)), ((2, 4), (2, 4)), ((), (2, 2)), ((2,), (2, 2, 2)), ((5,), (3, 3))):
            nought = (0,) * len(lower)
            near = [list(nought), nought + (0,), lower or (0,), nought[1:] + (True,), nought[1:] + (-1,), (0, 0, 0, 0, 0)]
            for i, j in two_rounds(upper):
                for thing in odd_things() + near:
                    with self.assertRaises(NoElement):
                        pair_table(Rounds(lower), Rounds(upper), i, j, thing)

    def test_no_pair(self):
        refused = 0
        for lower, upper in SHAPES + [((16,), (4, 2)), ((16,), (2, 4)), ((12,), (3, 2)), ((12,), (2, 3)), ((6,), (2, 3))]:
            for i, j in two_rounds(upper):
                right = odds_for(lower, upper, i, j)
                for a in all_tuples(lower):
                    if a in right:
                        self.assertIsInstance(pair_table(Rounds(lower), Rounds(upper), i, j, a), Table)
                        continue
                    refused += 1
                    with self.assertRaises(NoPair):
                        pair_table(Rounds(lower), Rounds(upper), i, j, a)
        self.assertGreater(refused, 50)


if __name__ == "__main__":
    unittest.main()
