"""Points 2, 18, 19, 20: weighings, odds, rests, kinds of tables."""

import unittest

from carrytower.errors import NoElement, NoHead, NoTower
from carrytower.groups import Rounds
from carrytower.relabels import changed
from carrytower.tables import Table
from carrytower.weighings import is_nought, kind_of, odds, rest_but_for, weighing
from helper import (
    SHAPES, Build, Model, all_rounds, all_tuples, any_build, any_carries, any_labels, head, less, many_times, odd_things,
    rest_of, walk_three, weighed,
)

NO_NUMBERS = [-1, -2, -3, -144, 10 ** 59, -(10 ** 59), 10 ** 60 - 1, 1 - 10 ** 60, 2 ** 64, -(2 ** 64)]


def made(lower, upper, carries):
    return Table(Rounds(lower), Rounds(upper), carries)


class Weighings(unittest.TestCase):
    """Point 18."""

    def test_weighings_of_any_carries(self):
        for seed, (lower, upper) in enumerate(SHAPES):
            carries = any_carries(lower, upper, seed)
            table = made(lower, upper, carries)
            for i in range(len(upper)):
                self.assertEqual(weighing(table, i), weighed(lower, upper, carries, i))
                self.assertIs(type(weighing(table, i)), tuple)
            self.assertEqual(table.carries(), carries)

    def test_weighings_by_hand(self):
        carries = {((x,), (y,)): (x * 4 + y,) for x in range(4) for y in range(4)}
        self.assertEqual(weighing(made((16,), (4,), carries), 0), ((1 + 5 + 9 + 13) % 16,))
        carries = {((0,), (0,)): (5,), ((0,), (1,)): (5,), ((1,), (0,)): (5,), ((1,), (1,)): (3,)}
        self.assertEqual(weighing(made((10,), (2,), carries), 0), (8,))

    def test_odds_of_any_carries(self):
        for seed, (lower, upper) in enumerate(SHAPES):
            carries = any_carries(lower, upper, seed)
            table = made(lower, upper, carries)
            for i in range(len(upper)):
                for j in range(len(upper)):
                    e, f = head(upper, i), head(upper, j)
                    self.assertEqual(odds(table, i, j), less(lower, carries[(e, f)], carries[(f, e)]))
                    self.assertEqual(odds(table, j, i), less(lower, carries[(f, e)], carries[(e, f)]))
                self.assertEqual(odds(table, i, i), (0,) * len(lower))
            self.assertEqual(table.carries(), carries)

    def test_odds_by_hand(self):
        carries = any_carries((9,), (3, 3), 0)
        carries.update({((1, 0), (0, 1)): (2,), ((0, 1), (1, 0)): (6,)})
        table = made((9,), (3, 3), carries)
        self.assertEqual([odds(table, i, j) for i in range(2) for j in range(2)], [(0,), (5,), (4,), (0,)])

    def test_no_head(self):
        for seed, (lower, upper) in enumerate(SHAPES):
            table, many = made(lower, upper, any_carries(lower, upper, seed)), len(upper)
            for wrong in NO_NUMBERS + [many, many + 1, -many - 1]:
                with self.assertRaises(NoHead):
                    weighing(table, wrong)
                for right in [*range(many), wrong]:
                    for i, j in ((right, wrong), (wrong, right)):
                        with self.assertRaises(NoHead):
                            odds(table, i, j)


class Rests(unittest.TestCase):
    """Point 19."""

    def test_place_by_place(self):
        for rounds in all_rounds(16) + [(144,), (2, 2, 2, 2, 3, 3), (12, 12), (9, 16), (2, 72)]:
            group = Rounds(rounds)
            for n in range(1, 145):
                for a in all_tuples(rounds)[::1 if len(rounds) < 2 else 5]:
                    told = rest_but_for(group, n, a)
                    self.assertEqual(told, rest_of(rounds, n, a))
                    self.assertIs(type(told), tuple)

    def test_one_rest_just_where_they_differ_by_n_times(self):
        for rounds in ((), (2,), (12,), (4, 6), (2, 2, 4), (9, 3), (16,), (5,)):
            group, members = Rounds(rounds), all_tuples(rounds)
            for n in [*range(1, 25), 72, 143, 144]:
                by_n = {many_times(rounds, n, b) for b in members}
                rests = {a: rest_but_for(group, n, a) for a in members}
                for a in members:
                    for b in members:
                        self.assertEqual(rests[a] == rests[b], less(rounds, a, b) in by_n)

    def test_no_element(self):
        for rounds in ((), (2,), (4, 6)):
            group = Rounds(rounds)
            near = [list(group.nought()), group.nought() + (0,), rounds or (0,), group.nought()[1:] + (True,), (0, False)]
            for thing in odd_things() + near:
                for n in (1, 2, 144):
                    with self.assertRaises(NoElement):
                        rest_but_for(group, n, thing)


class Kinds(unittest.TestCase):
    """Point 20."""

    def held(self, build):
        table = build.table()
        told = kind_of(table)
        self.assertEqual(told, build.kind())
        self.assertEqual([type(told), type(told[0]), type(told[1])], [tuple] * 3)
        self.assertEqual({type(part) for part in told[0] + told[1]} - {tuple}, set())
        self.assertEqual(table.carries(), build.carries)

    def test_kinds_put_together(self):
        for lower, upper in SHAPES:
            for seed in range(4):
                self.held(any_build(lower, upper, seed))
            self.held(any_build(lower, upper, 5, bare=True))

    def test_the_order_of_the_odds(self):
        lower, upper = (2, 2), (2, 2, 2)
        odd_ones = {(0, 1): (0, 1), (0, 2): (1, 0), (1, 2): (1, 1)}
        for labels in ({x: (0, 0) for x in all_tuples(upper)}, any_labels(Model(lower), upper, 1)):
            build = Build(lower, upper, [(1, 0), (0, 0), (0, 1)], odd_ones, labels)
            self.assertEqual(kind_of(build.table()), (((1, 0), (0, 0), (0, 1)), ((0, 1), (1, 0), (1, 1))))

    def test_the_order_of_the_rests(self):
        build = Build((16,), (2, 4), [(1,), (3,)], {(0, 1): (8,)}, any_labels(Model((16,)), (2, 4), 2))
        self.assertEqual(kind_of(build.table()), (((1,), (3,)), ((8,),)))

    def test_odds_are_no_rests(self):
        build = Build((9,), (3, 3), [(7,), (5,)], {(0, 1): (6,)}, any_labels(Model((9,)), (3, 3), 3))
        self.assertEqual(kind_of(build.table()), (((1,), (2,)), ((6,),)))

    def test_a_relabeling_changes_nothing(self):
        for seed, (lower, upper) in enumerate(SHAPES):
            build = any_build(lower, upper, seed, bare=True)
            for k in range(3):
                h = any_labels(Model(lower), upper, k)
                self.assertEqual(kind_of(changed(build.table(), h)), build.kind())

    def test_no_tower(self):
        for seed, (lower, upper) in enumerate(SHAPES):
            carries = any_carries(lower, upper, seed)
            broken = walk_three(lower, upper, carries)
            if broken:
                with self.assertRaises(NoTower) as caught:
                    kind_of(made(lower, upper, carries))
                self.assertEqual(caught.exception.three, min(broken))
            else:
                self.assertIsNotNone(kind_of(made(lower, upper, carries)))

    def test_no_tower_by_one_carry(self):
        for lower, upper in (((2,), (2, 2)), ((9,), (3, 3)), ((2, 2), (4,)), ((5,), (3,))):
            build = any_build(lower, upper, 1)
            for key in build.carries:
                for a in all_tuples(lower):
                    carries = {**build.carries, key: a}
                    broken = walk_three(lower, upper, carries)
                    if not broken:
                        self.assertEqual(kind_of(made(lower, upper, carries))[1], build.kind()[1])
                        continue
                    with self.assertRaises(NoTower) as caught:
                        kind_of(made(lower, upper, carries))
                    self.assertEqual(caught.exception.three, min(broken))


class Nought(unittest.TestCase):
    """Point 20, of kinds alone."""

    def test_noughts(self):
        for kind in (
            ((), ()), (((),), ()), (((), ()), ((),)), (((0,),), ()), (((0, 0), (0, 0)), ((0, 0),)),
            (((0,), (0,), (0,)), ((0,), (0,), (0,))),
        ):
            self.assertIs(is_nought(kind), True)

    def test_each_number_other_than_0(self):
        for many, pairs, places in ((1, 0, 1), (1, 0, 2), (2, 1, 1), (2, 1, 4), (3, 3, 2)):
            for at in range(many + pairs):
                for place in range(places):
                    for k in (1, 2, 15):
                        parts = [(0,) * places] * (many + pairs)
                        parts[at] = (0,) * place + (k,) + (0,) * (places - place - 1)
                        self.assertIs(is_nought((tuple(parts[:many]), tuple(parts[many:]))), False)

    def test_kinds_of_tables(self):
        for seed, (lower, upper) in enumerate(SHAPES):
            kind = any_build(lower, upper, seed).kind()
            wanted = not any(k for row in kind for part in row for k in part)
            self.assertIs(is_nought(kind_of(any_build(lower, upper, seed).table())), wanted)
            empty = Build(lower, upper, [(0,) * len(lower)] * len(upper), {}, any_labels(Model(lower), upper, seed))
            self.assertIs(is_nought(kind_of(empty.table())), True)


if __name__ == "__main__":
    unittest.main()
