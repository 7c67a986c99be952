"""Points 2, 13, 30, 31: tables upon towers made flat, and floors."""

import unittest

from carrytower.errors import NoLower
from carrytower.groups import Rounds
from carrytower.stacks import flat, floors
from carrytower.tables import Table
from carrytower.towers import Tower
from helper import (
    Model, add_places, all_tuples, any_over, even_towers, great_towers, paired_over, ruled_over, stack, uneven_towers,
)

PLAINEST = {
    (): (), (2,): (2,), (16,): (16,), (2, 3): (6,), (3, 2): (6,), (2, 2): (2, 2), (4, 2): (2, 4), (2, 4): (2, 4), (2, 6): (2, 6),
    (3, 4): (12,), (5, 3): (15,), (2, 2, 3): (2, 6), (3, 2, 2): (2, 6), (2, 2, 2, 2): (2, 2, 2, 2), (8, 2): (2, 8), (7, 2): (14,),
}
UPPERS = ((), (2,), (3,), (2, 2), (9,), (2, 4))


def lowers():
    """Models of lower groups: by rounds, and towers of up to eight floors."""
    high = stack((2,), [(2,), (), (), (), (), (), (2,), ()], 3)
    return [Model(rounds) for rounds in PLAINEST] + [model for model in even_towers() if len(model.members) <= 16] + [high]


def orders(model):
    return sorted(model.order(p) for p in model.members)


class Flat(unittest.TestCase):
    """Point 30."""

    def held(self, lower, upper, carries):
        table = Table(lower.group(), Rounds(upper), dict(carries))
        told = flat(table)
        self.assertEqual([type(told), len(told)], [tuple, 2])
        low, there = told
        self.assertIsInstance(low, Table)
        self.assertIs(type(there), dict)
        rounds = low.lower.rounds
        self.assertTrue(all(later % n == 0 for n, later in zip(rounds, rounds[1:])))
        self.assertEqual(orders(Model(rounds)), orders(lower))
        self.assertTrue(low.upper.like(table.upper))
        self.assertEqual(sorted(there), lower.members)
        self.assertEqual(sorted(there.values()), all_tuples(rounds))
        for p, q in lower.sums:
            self.assertEqual(there[lower.sums[(p, q)]], add_places(rounds, there[p], there[q]))
        wanted = {key: there[carried] for key, carried in carries.items()}
        self.assertEqual(low.carries(), wanted)
        kept = dict(there)
        there.clear()
        self.assertEqual(low.carries(), wanted)
        self.assertEqual(table.carries(), carries)
        return low, kept

    def test_tables_with_and_without_the_rule(self):
        for seed, lower in enumerate(lowers()):
            for upper in UPPERS:
                self.held(lower, upper, any_over(lower, upper, seed))
                self.held(lower, upper, ruled_over(lower, upper, seed))

    def test_upon_groups_by_rounds(self):
        for rounds, plainest in PLAINEST.items():
            low, there = self.held(Model(rounds), (2,), any_over(Model(rounds), (2,), 1))
            self.assertEqual(low.lower.rounds, plainest)
            self.assertIsInstance(low.lower, Rounds)

    def test_towers_go_to_towers(self):
        for seed, lower in enumerate(lowers()):
            for upper in ((), (3,), (2, 2)):
                carries = ruled_over(lower, upper, seed)
                self.same_tower(lower, upper, carries)
                twos = [a for a in lower.members if lower.order(a) == 2]
                if upper == (2, 2) and twos:
                    self.same_tower(lower, upper, paired_over(lower, upper, twos[0], seed))

    def same_tower(self, lower, upper, carries):
        low, there = self.held(lower, upper, carries)
        one, other = Model(upper, lower, carries), Model(upper, Model(low.lower.rounds), low.carries())
        self.assertEqual(Tower(low).members(), other.members)
        led = {(a, x): (there[a], x) for a, x in one.members}
        self.assertEqual(sorted(led.values()), other.members)
        for p, q in one.sums:
            self.assertEqual(led[one.sums[(p, q)]], other.sums[(led[p], led[q])])

    def test_told_anew(self):
        lower = stack((2,), [(2,)], 1)
        table = Table(lower.group(), Rounds((2,)), ruled_over(lower, (2,), 1))
        first, there = flat(table)
        there.clear()
        second, again = flat(table)
        self.assertEqual(sorted(again), lower.members)
        self.assertEqual(second.carries(), first.carries())


class Floors(unittest.TestCase):
    """Point 31."""

    def high(self, model):
        return 0 if model.lower is None else 1 + self.high(model.lower)

    def test_floors(self):
        for rounds in PLAINEST:
            self.assertEqual(floors(Rounds(rounds)), 0)
        self.assertEqual(floors(Rounds((144,))), 0)
        found = set()
        for model in [*even_towers(), *uneven_towers(), *great_towers()]:
            told = floors(model.group())
            self.assertEqual(told, self.high(model))
            self.assertIs(type(told), int)
            found.add(told)
        self.assertEqual(found, {1, 2, 3, 4, 8})

    def test_one_floor_after_the_other(self):
        model, upper = Model((2,)), ((2,), (), (2,), (), (), (), (2,), ())
        for many, rounds in enumerate(upper, start=1):
            model = Model(rounds, model, ruled_over(model, rounds, many))
            self.assertEqual(floors(model.group()), many)

    def test_what_may_lie_below(self):
        uneven = uneven_towers()[0].group()
        great = stack((2,), [(9,)]).group()
        even_great = stack((3,), [(3,), (2,)], 1).group()
        for lower in (uneven, great, even_great):
            for upper in (Rounds((2,)), Rounds((10,)), lower):
                with self.assertRaises(NoLower):
                    Table(lower, upper, {(x, y): lower.nought() for x in upper.members() for y in upper.members()})
        full = stack((4,), [(2, 2)], 1).group()
        self.assertEqual(full.size(), 16)
        table = Table(full, Rounds((2,)), {((k,), (m,)): full.nought() for k in range(2) for m in range(2)})
        self.assertEqual(floors(Tower(table)), 2)


if __name__ == "__main__":
    unittest.main()
