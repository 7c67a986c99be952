"""Points 2, 15, 16, 17: relabelings, tables changed by them, and level tables."""

import unittest

from carrytower.errors import NoLower, NoRelabeling, NoTower, NoUpper
from carrytower.groups import Rounds
from carrytower.relabels import changed, is_level, levelled, renumbering, table_by
from carrytower.tables import Table, break_of_three, break_of_two
from carrytower.towers import Tower
from helper import (
    Model, all_tuples, any_labels, any_over, even_towers, odd_things, own_carries, paired_over, ruled_over, stack,
    uneven_towers, walk_three_over,
)

BESIDE = {"key": None, 5: 5, None: 1, (9, 9, 9): (0,), ((0,), (0,)): ((0,), (0,)), b"": [], (-1,): "x", (17,): (0,)}


def lowers():
    """Models of lower groups: by rounds, and towers."""
    towers = [model for model in even_towers() if len(model.members) <= 16]
    return [Model(()), Model((2,)), Model((2, 4)), Model((16,))] + towers


def shapes():
    return [(lower, upper) for lower in lowers() for upper in ((), (3,), (2, 2))] + [
        (Model((16,)), (9,)), (stack((4,), [(2, 2)], 1), (3, 3)), (Model((2, 2, 2, 2)), (2, 4)),
    ]


def made(lower, upper, carries):
    return Table(lower.group(), Rounds(upper), carries)


def added(lower, one, other):
    """The carries of both, added."""
    return {key: lower.sums[(one[key], other[key])] for key in one}


class Changing(unittest.TestCase):
    """Point 15."""

    def test_the_own_table(self):
        for seed, (lower, upper) in enumerate(shapes()):
            h = any_labels(lower, upper, seed)
            below, above = lower.group(), Rounds(upper)
            table = table_by(below, above, h)
            self.assertIsInstance(table, Table)
            self.assertIs(table.lower, below)
            self.assertIs(table.upper, above)
            self.assertEqual(table.carries(), own_carries(lower, upper, h))
            self.assertIsNone(break_of_three(table))
            self.assertIsNone(break_of_two(table))

    def test_the_own_table_by_hand(self):
        table = table_by(Rounds((5,)), Rounds((2,)), {(0,): (1,), (1,): (4,)})
        self.assertEqual([table.carry((k,), (m,)) for k in range(2) for m in range(2)], [(1,), (1,), (1,), (2,)])

    def test_changed(self):
        for seed, (lower, upper) in enumerate(shapes()):
            h = any_labels(lower, upper, seed)
            for carries in (any_over(lower, upper, seed), ruled_over(lower, upper, seed + 1)):
                table = made(lower, upper, carries)
                told = changed(table, h)
                self.assertIsInstance(told, Table)
                self.assertTrue(told.lower.like(table.lower))
                self.assertTrue(told.upper.like(table.upper))
                self.assertEqual(told.carries(), added(lower, carries, own_carries(lower, upper, h)))
                self.assertEqual(table.carries(), carries)

    def test_changed_keeps_the_breaks(self):
        for seed, (lower, upper) in enumerate(shapes()):
            carries = any_over(lower, upper, seed)
            table, told = made(lower, upper, carries), changed(made(lower, upper, carries), any_labels(lower, upper, 3))
            self.assertEqual(break_of_three(told), break_of_three(table))
            self.assertEqual(break_of_two(told), break_of_two(table))

    def test_keys_beside_are_passed_over(self):
        for lower, upper in ((Model((4,)), (2, 2)), (stack((2,), [(2,)], 1), (3,))):
            h, carries = any_labels(lower, upper, 1), any_over(lower, upper, 2)
            for handed in ({**BESIDE, **h}, {**h, **BESIDE}):
                kept = dict(handed)
                self.assertEqual(table_by(lower.group(), Rounds(upper), handed).carries(), own_carries(lower, upper, h))
                self.assertEqual(changed(made(lower, upper, carries), handed).carries(),
                                 added(lower, carries, own_carries(lower, upper, h)))
                self.assertEqual(handed, kept)

    def test_the_dict_changed_behind_the_call_changes_nothing(self):
        lower, upper = stack((2,), [(2,)], 1), (2, 2)
        h, carries = any_labels(lower, upper, 4), ruled_over(lower, upper, 4)
        handed, table = dict(h), made(lower, upper, carries)
        told = [table_by(table.lower, table.upper, handed), changed(table, handed)]
        kept = [one.carries() for one in told]
        led = renumbering(table, handed)
        kept_led = dict(led)
        self.assertEqual(handed, h)
        for x in handed:
            handed[x] = lower.members[0]
        handed.clear()
        self.assertEqual([one.carries() for one in told], kept)
        self.assertEqual(led, kept_led)
        told[1].carries().clear()
        self.assertEqual(told[1].carries(), kept[1])
        self.assertEqual(table.carries(), carries)

    def refused(self, table, h, x):
        handed = dict(h)
        for ask in (
            lambda: table_by(table.lower, table.upper, handed), lambda: changed(table, handed),
            lambda: renumbering(table, handed),
        ):
            with self.assertRaises(NoRelabeling) as caught:
                ask()
            self.assertEqual(caught.exception.x, x)
            self.assertEqual(list(handed), list(h))

    def test_each_label_lacking_or_none(self):
        for lower, upper in (
            (Model((2, 4)), (3,)), (Model((3,)), (2, 2)), (Model(()), (2,)), (Model((2,)), ()),
            (stack((2,), [(2,)], 1), (2, 2)), (stack((2,), [(2,), (2,)], 3), (3,)),
        ):
            table, h = made(lower, upper, ruled_over(lower, upper, 5)), any_labels(lower, upper, 5)
            some = lower.members[-1]
            wrong = odd_things() + [list(some), some + (0,), (some,), [some], some + (True,), (17,), (0, 0, 0, 0)]
            members = all_tuples(upper)
            for at, x in enumerate(members):
                lacking = {y: h[y] for y in members if y != x}
                self.refused(table, lacking, x)
                self.refused(table, {**BESIDE, **lacking}, x)
                for thing in wrong:
                    self.refused(table, {**h, x: thing}, x)
                for later in members[at + 1:]:
                    self.refused(table, {later: None, **lacking}, x)
                    self.refused(table, {**h, later: 1, x: some + (0,)}, x)
                    self.refused(table, {y: lacking[y] for y in lacking if y != later}, x)
        self.refused(table, {}, (0,))

    def test_labels_with_a_truth_or_a_list_within(self):
        lower = stack((2,), [(2,)], 1)
        table, h = made(lower, (2,), ruled_over(lower, (2,), 1)), any_labels(lower, (2,), 1)
        for thing in (
            ((True,), (0,)), ((0,), (False,)), ([0], (0,)), ((0,), [0]), [(0,), (0,)], ((0,), (2,)), ((2,), (0,)),
            ((0,), (0,), (0,)), ((0,),), ((0,), (10 ** 59,)), ((0,), (-1,)), (0, 0), (0,),
        ):
            self.refused(table, {**h, (1,): thing}, (1,))
            self.refused(table, {**h, (0,): thing}, (0,))

    def test_one_refusal_ahead_of_another(self):
        uneven, even, great = uneven_towers()[0].group(), even_towers()[3].group(), stack((2,), [(9,)]).group()
        for lower in (Rounds((17,)), uneven, great):
            for upper in (Rounds((10,)), even, Rounds((2,))):
                for h in ({}, {(0,): (0,), (1,): (0,)}):
                    with self.assertRaises(NoLower):
                        table_by(lower, upper, h)
        for lower in (Rounds((2,)), even):
            for upper in (Rounds((10,)), even, uneven):
                for h in ({}, {(k,): lower.nought() for k in range(10)}, {x: lower.nought() for x in upper.members()}):
                    with self.assertRaises(NoUpper):
                        table_by(lower, upper, h)
            with self.assertRaises(NoRelabeling):
                table_by(lower, Rounds((9,)), {})


class Renumbering(unittest.TestCase):
    """Point 16."""

    def held(self, lower, upper, carries, h):
        table = made(lower, upper, carries)
        led = renumbering(table, h)
        self.assertIs(type(led), dict)
        one = Model(upper, lower, carries)
        other = Model(upper, lower, added(lower, carries, own_carries(lower, upper, h)))
        self.assertEqual(sorted(led), one.members)
        self.assertEqual(sorted(led.values()), other.members)
        self.assertEqual(led, {(a, x): (lower.sums[(a, lower.backs[h[x]])], x) for a, x in one.members})
        for p, q in one.sums:
            self.assertEqual(led[one.sums[(p, q)]], other.sums[(led[p], led[q])])
        self.assertEqual(Tower(changed(table, h)).members(), other.members)
        kept = dict(led)
        led.clear()
        self.assertEqual(renumbering(table, h), kept)
        self.assertEqual(table.carries(), carries)

    def test_even_tables(self):
        for seed, (lower, upper) in enumerate(shapes()):
            h = any_labels(lower, upper, seed)
            self.held(lower, upper, ruled_over(lower, upper, seed + 1), h)

    def test_uneven_tables(self):
        for seed, lower in enumerate(lowers()):
            for a in [a for a in lower.members if lower.order(a) == 2][:1]:
                self.held(lower, (2, 2), paired_over(lower, (2, 2), a, seed), any_labels(lower, (2, 2), seed + 1))

    def test_keys_beside(self):
        lower, upper = stack((2,), [(2,)], 1), (2, 2)
        table, h = made(lower, upper, ruled_over(lower, upper, 1)), any_labels(lower, upper, 2)
        handed = {**BESIDE, **h}
        self.assertEqual(renumbering(table, handed), renumbering(table, h))
        self.assertEqual(handed, {**BESIDE, **h})

    def test_no_tower_ahead_of_no_relabeling(self):
        for lower in (Model((3,)), stack((2,), [(2,)], 1)):
            carries = any_over(lower, (2, 2), 7)
            for h in ({}, any_labels(lower, (2, 2), 1), {(0, 0): None}):
                with self.assertRaises(NoTower) as caught:
                    renumbering(made(lower, (2, 2), carries), h)
                self.assertEqual(caught.exception.three, min(walk_three_over(lower, (2, 2), carries)))
            with self.assertRaises(NoRelabeling) as caught:
                renumbering(made(lower, (2, 2), ruled_over(lower, (2, 2), 1)), {(0, 0): lower.nought})
            self.assertEqual(caught.exception.x, (0, 1))


class Levelling(unittest.TestCase):
    """Point 17."""

    def held(self, lower, upper, carries):
        table, bottom = made(lower, upper, carries), (0,) * len(upper)
        self.assertIs(is_level(table), carries[(bottom, bottom)] == lower.nought)
        told = levelled(table)
        self.assertIs(type(told), tuple)
        level, h = told
        self.assertIs(type(h), dict)
        away = lower.backs[carries[(bottom, bottom)]]
        self.assertEqual(h, {x: away for x in all_tuples(upper)})
        self.assertIs(is_level(level), True)
        self.assertEqual(level.carry(bottom, bottom), lower.nought)
        wanted = {key: lower.sums[(carried, away)] for key, carried in carries.items()}
        self.assertEqual(level.carries(), wanted)
        self.assertEqual(changed(table, h).carries(), wanted)
        self.assertTrue(level.lower.like(table.lower) and level.upper.like(table.upper))
        h.clear()
        self.assertEqual(levelled(table)[1], {x: away for x in all_tuples(upper)})
        self.assertEqual(levelled(table)[0].carries(), wanted)
        self.assertEqual(level.carries(), wanted)
        self.assertEqual(table.carries(), carries)

    def test_tables_with_the_rule(self):
        for seed, (lower, upper) in enumerate(shapes()):
            self.held(lower, upper, ruled_over(lower, upper, seed))

    def test_tables_without_the_rule(self):
        for seed, (lower, upper) in enumerate(shapes()):
            carries = any_over(lower, upper, seed)
            bottom = (0,) * len(upper)
            self.held(lower, upper, carries)
            self.held(lower, upper, {**carries, (bottom, bottom): lower.nought})

    def test_each_carry_of_noughts(self):
        for lower in (Model((2, 4)), stack((2,), [(2,)], 1), stack((2,), [(2,), (2,)], 3)):
            carries = ruled_over(lower, (3,), 2)
            for shift in lower.members:
                self.held(lower, (3,), {key: lower.sums[(carried, shift)] for key, carried in carries.items()})

    def test_a_nought_below_that_is_not_all_0(self):
        odd = [lower for lower in lowers() if lower.lower is not None and "1" in repr(lower.nought)]
        self.assertGreater(len(odd), 1)
        for lower in odd:
            members = all_tuples((2,))
            flat = {(x, y): lower.members[0] for x in members for y in members}
            self.assertIs(is_level(made(lower, (2,), flat)), False)
            level = {(x, y): lower.nought for x in members for y in members}
            self.assertIs(is_level(made(lower, (2,), level)), True)


if __name__ == "__main__":
    unittest.main()
