"""Points 2 and 8: tables made, asked, held against one another."""

import unittest

from carrytower.errors import NoCarry, NoElement, NoLower, NoUpper
from carrytower.groups import Rounds
from carrytower.tables import Table, alike
from helper import all_tuples, any_carries, any_over, even_towers, great_towers, odd_things, stack, uneven_towers

SHAPES = (
    ((), ()), ((2,), ()), ((), (2,)), ((2,), (2,)), ((4,), (2, 2)), ((2, 4), (3,)), ((16,), (9,)), ((2, 2, 2, 2), (3, 3)),
)


def made(lower, upper, carries):
    return Table(Rounds(lower), Rounds(upper), carries)


def constant(upper, carried):
    """Carries that are all the same, whether the groups may stand in a table or not."""
    members = all_tuples(upper)
    return {(x, y): carried for x in members for y in members}


class Making(unittest.TestCase):
    def test_fields_and_carries(self):
        for seed, (lower, upper) in enumerate(SHAPES):
            carries = any_carries(lower, upper, seed)
            below, above = Rounds(lower), Rounds(upper)
            table = Table(below, above, carries)
            self.assertIs(table.lower, below)
            self.assertIs(table.upper, above)
            self.assertEqual(table.carries(), carries)
            for (x, y), carried in carries.items():
                self.assertEqual(table.carry(x, y), carried)

    def test_keys_beside_are_passed_over(self):
        carries = any_carries((4,), (2, 2), 1)
        beside = {
            None: (0,), "key": None, 5: 5, (): (), (0, 0): (1,), ((0, 0),): (1,), ((0, 0), (0, 2)): (1,),
            ((0, 0), (0, 0), (0, 0)): (2,), ((0, 0), None): "x", ((2, 0), (0, 0)): (9,), ((0,), (0,)): (1,),
            b"": [], frozenset([1]): {}, (((0, 0), (0, 0)),): (1,),
        }
        for handed in ({**beside, **carries}, {**carries, **beside}):
            kept = dict(handed)
            table = made((4,), (2, 2), handed)
            self.assertEqual(table.carries(), carries)
            self.assertEqual(handed, kept)

    def test_keys_beside_stand_for_nothing(self):
        carries = any_carries((4,), (2, 2), 1)
        carries.pop(((0, 1), (1, 0)))
        carries[((0, 1), (1, 0), (0, 0))] = (1,)
        carries[((0, 1), (1, 2))] = (1,)
        with self.assertRaises(NoCarry) as caught:
            made((4,), (2, 2), carries)
        self.assertEqual((caught.exception.x, caught.exception.y), ((0, 1), (1, 0)))

    def test_the_dict_stays_and_changed_behind_the_call_changes_nothing(self):
        carries = any_carries((3,), (2,), 2)
        handed = dict(carries)
        table = made((3,), (2,), handed)
        self.assertEqual(handed, carries)
        for key in list(handed):
            handed[key] = ((handed[key][0] + 1) % 3,)
        handed["more"] = 1
        self.assertEqual(table.carries(), carries)
        handed.clear()
        self.assertEqual(table.carries(), carries)
        for (x, y), carried in carries.items():
            self.assertEqual(table.carry(x, y), carried)

    def test_carries_told_changed_told_again(self):
        carries = any_carries((3,), (2, 2), 3)
        table = made((3,), (2, 2), carries)
        told = table.carries()
        self.assertIs(type(told), dict)
        told[((0, 0), (0, 0))] = "changed"
        told.pop(((1, 1), (1, 1)))
        told["more"] = 1
        self.assertEqual(table.carries(), carries)
        self.assertEqual(table.carry((0, 0), (0, 0)), carries[((0, 0), (0, 0))])
        self.assertEqual(table.carry((1, 1), (1, 1)), carries[((1, 1), (1, 1))])
        self.assertIsNot(table.carries(), table.carries())

    def test_carry_of_what_is_no_element(self):
        table = made((3,), (2, 2), any_carries((3,), (2, 2), 4))
        wrong = odd_things() + [(0,), (0, 0, 0), [0, 0], (0, 2), (2, 0), (-1, 0), (0, True), (False, 0), (0, None)]
        for thing in wrong:
            for x, y in ((thing, (0, 0)), ((1, 1), thing), (thing, thing)):
                with self.assertRaises(NoElement):
                    table.carry(x, y)

    def test_carry_over_no_rounds(self):
        table = made((5,), (), {((), ()): (3,)})
        self.assertEqual(table.carry((), ()), (3,))
        for thing in ((0,), [], None, 0):
            with self.assertRaises(NoElement):
                table.carry((), thing)


class Refusing(unittest.TestCase):
    def test_sixteen_and_seventeen_below(self):
        for lower in ((16,), (2, 8), (4, 4), (2, 2, 2, 2), (15,), (3, 5), ()):
            nought = (0,) * len(lower)
            self.assertEqual(made(lower, (2,), constant((2,), nought)).lower.rounds, lower)
        for lower in ((17,), (2, 9), (3, 6), (2, 2, 5), (144,), (2,) * 7):
            nought = (0,) * len(lower)
            with self.assertRaises(NoLower):
                made(lower, (2,), constant((2,), nought))

    def test_nine_and_ten_above(self):
        for upper in ((9,), (3, 3), (8,), (2, 4), (2, 2, 2), (7,), ()):
            self.assertEqual(made((2,), upper, constant(upper, (1,))).upper.rounds, upper)
        for upper in ((10,), (2, 5), (3, 4), (2, 2, 3), (16,), (144,), (2,) * 7):
            with self.assertRaises(NoUpper):
                made((2,), upper, constant(upper, (1,)))

    def test_one_refusal_ahead_of_another(self):
        for lower, upper, wanted in (
            ((17,), (10,), NoLower), ((17,), (9,), NoLower), ((16,), (10,), NoUpper), ((16,), (9,), NoCarry),
        ):
            for carries in ({}, constant(upper, None)):
                with self.assertRaises(wanted):
                    made(lower, upper, carries)

    def test_each_pair_lacking(self):
        for lower, upper in (((2,), (3,)), ((2, 2), (2, 2)), ((), (2,)), ((3,), ())):
            carries = any_carries(lower, upper, 5)
            for key in carries:
                handed = dict(carries)
                handed.pop(key)
                with self.assertRaises(NoCarry) as caught:
                    made(lower, upper, handed)
                self.assertEqual((caught.exception.x, caught.exception.y), key)
                self.assertEqual(len(handed), len(carries) - 1)

    def test_each_pair_with_no_element(self):
        wrong = odd_things() + [(2, 0), (0, 2), (0,), (0, 0, 0), [0, 0], (0, True), (-1, 0), (0, 10 ** 59)]
        carries = any_carries((2, 2), (3,), 6)
        for key in carries:
            for thing in wrong:
                with self.assertRaises(NoCarry) as caught:
                    made((2, 2), (3,), {**carries, key: thing})
                self.assertEqual((caught.exception.x, caught.exception.y), key)

    def test_the_first_of_several_pairs(self):
        carries = any_carries((2,), (2, 2), 7)
        keys = sorted(carries)
        for at, first in enumerate(keys):
            for later in keys[at + 1:]:
                lacking, wrong = dict(carries), dict(carries)
                wrong[later], wrong[first] = None, (2,)
                lacking.pop(later)
                lacking.pop(first)
                mixed = {**wrong}
                mixed.pop(later)
                backward = dict(reversed(list(wrong.items())))
                for handed in (lacking, wrong, mixed, backward):
                    with self.assertRaises(NoCarry) as caught:
                        made((2,), (2, 2), handed)
                    self.assertEqual((caught.exception.x, caught.exception.y), first)

    def test_an_empty_dict(self):
        with self.assertRaises(NoCarry) as caught:
            made((2,), (3, 3), {})
        self.assertEqual((caught.exception.x, caught.exception.y), ((0, 0), (0, 0)))


class OverTowers(unittest.TestCase):
    """A lower group may be a tower whose table is even; an upper one is by rounds alone."""

    def lowers(self):
        return [lower for lower in even_towers() if len(lower.members) <= 16]

    def test_fields_and_carries(self):
        for seed, model in enumerate(self.lowers()):
            for upper in ((), (3,), (2, 2)):
                carries = any_over(model, upper, seed)
                below, handed = model.group(), {**carries, "beside": 1, (0, 0): None}
                kept = dict(handed)
                table = Table(below, Rounds(upper), handed)
                self.assertEqual(handed, kept)
                handed.clear()
                self.assertIs(table.lower, below)
                self.assertEqual(table.carries(), carries)
                for (x, y), carried in carries.items():
                    self.assertEqual(table.carry(x, y), carried)
                table.carries().clear()
                self.assertEqual(table.carries(), carries)

    def refused(self, below, upper, carries, key):
        with self.assertRaises(NoCarry) as caught:
            Table(below, Rounds(upper), carries)
        self.assertEqual((caught.exception.x, caught.exception.y), key)

    def test_carries_that_are_no_elements(self):
        model = stack((2,), [(2,), (2, 2)], 1)
        below = model.group()
        wrong = odd_things() + [
            (0,), ((0,), (0,)), (((0,), (0,)), (0, 2)), (((0,), (2,)), (0, 0)), (((2,), (0,)), (0, 0)),
            (((0,), (0,)), (0, 10 ** 59)), (((0,), (0,)), (0, -1)), (((0,), (0,)), (0, True)),
            (((0,), (False,)), (0, 0)), (((True,), (0,)), (0, 0)), (((0,), (0,)), (0, 0), 0),
            (((0,), (0,)), (0, 0), (0, 0)), (((0,), (0,)), (0, 0, 0)), (((0,), (0,), (0,)), (0, 0)),
            [((0,), (0,)), (0, 0)], (((0,), (0,)), [0, 0]), ([(0,), (0,)], (0, 0)), (([0], (0,)), (0, 0)),
            (((0,), (0,)),), ((0, 0), ((0,), (0,))), (None, (0, 0)), (((0,), (0,)), None), {((0,), (0,)): (0, 0)},
        ]
        carries = any_over(model, (3,), 2)
        for key in carries:
            for thing in wrong:
                self.refused(below, (3,), {**carries, key: thing}, key)

    def test_each_pair_lacking_and_the_first_of_several(self):
        model = stack((2,), [(2,)], 1)
        carries = any_over(model, (2, 2), 3)
        keys = sorted(carries)
        for at, key in enumerate(keys):
            lacking = {other: carries[other] for other in keys if other != key}
            self.refused(model.group(), (2, 2), lacking, key)
            for later in keys[at + 1:]:
                self.refused(model.group(), (2, 2), {**lacking, later: ((0,), (2,))}, key)
                self.refused(model.group(), (2, 2), {later: None, **carries, key: 1}, key)

    def test_a_tower_that_is_not_even_below(self):
        for model in uneven_towers():
            nought = model.nought
            for upper in ((2,), (10,)):
                with self.assertRaises(NoLower):
                    Table(model.group(), Rounds(upper), constant(upper, nought))

    def test_sixteen_and_more_in_the_tower_below(self):
        for model in (stack((4,), [(2, 2)]), stack((2,), [(2,), (2,), (2,)]), stack((16,), [()]), stack((5,), [(3,)])):
            table = Table(model.group(), Rounds((2,)), constant((2,), model.nought))
            self.assertEqual(table.carry((1,), (1,)), model.nought)
        for model in (stack((2,), [(9,)]), stack((9,), [(2,)]), stack((2,), [(3,), (3,)]), *great_towers()):
            with self.assertRaises(NoLower):
                Table(model.group(), Rounds((2,)), constant((2,), model.nought))

    def test_seventeen_in_the_group_below(self):
        with self.assertRaises(NoLower):
            Table(Rounds((17,)), Rounds((2,)), constant((2,), (0,)))

    def test_a_tower_above(self):
        for model in (*even_towers(), *uneven_towers()):
            above = model.group()
            carries = {(x, y): (0,) for x in above.members() for y in above.members()}
            with self.assertRaises(NoUpper):
                Table(Rounds((2,)), above, carries)
            with self.assertRaises(NoUpper):
                Table(even_towers()[3].group(), above, {})
            with self.assertRaises(NoLower):
                Table(uneven_towers()[0].group(), above, {})
            with self.assertRaises(NoLower):
                Table(Rounds((17,)), above, {})

    def test_no_group_at_all(self):
        for thing in odd_things():
            with self.assertRaises(NoLower):
                Table(thing, thing, {})
            with self.assertRaises(NoUpper):
                Table(Rounds((2,)), thing, {})

    def test_alike(self):
        models = [stack((2,), [(2,)], seed) for seed in range(12)]
        carries = {((k,), (m,)): models[0].members[k + 2 * m] for k in range(2) for m in range(2)}
        seen = set()
        for one in models:
            for other in models:
                wanted = one.carries == other.carries
                seen.add(wanted)
                tables = [Table(model.group(), Rounds((2,)), carries) for model in (one, other)]
                self.assertIs(alike(*tables), wanted)
        self.assertEqual(seen, {True, False})
        table = Table(models[0].group(), Rounds((2,)), carries)
        twisted = {**carries, ((0,), (1,)): ((0,), (0,))}
        self.assertIs(alike(table, Table(models[0].group(), Rounds((2,)), twisted)), False)


class Alike(unittest.TestCase):
    def test_the_same_carries(self):
        for seed, (lower, upper) in enumerate(SHAPES):
            carries = any_carries(lower, upper, seed)
            table = made(lower, upper, carries)
            backward = dict(reversed(list(carries.items())))
            self.assertIs(alike(table, table), True)
            self.assertIs(alike(table, made(list(lower), list(upper), {**backward, "beside": 1})), True)

    def test_one_carry_put_otherwise(self):
        carries = any_carries((3,), (2, 2), 8)
        table = made((3,), (2, 2), carries)
        for key in carries:
            other = made((3,), (2, 2), {**carries, key: ((carries[key][0] + 1) % 3,)})
            self.assertIs(alike(table, other), False)
            self.assertIs(alike(other, table), False)

    def test_other_rounds_with_the_same_carries(self):
        carries = constant((2,), (1,))
        one, other = made((2,), (2,), carries), made((3,), (2,), carries)
        self.assertEqual(one.carries(), other.carries())
        self.assertIs(alike(one, other), False)
        self.assertIs(alike(other, one), False)
        carries = constant((2,), (1, 1))
        self.assertIs(alike(made((2, 4), (2,), carries), made((4, 2), (2,), carries)), False)

    def test_other_upper_groups(self):
        one = made((2,), (2, 3), constant((2, 3), (1,)))
        other = made((2,), (3, 2), constant((3, 2), (1,)))
        self.assertIs(alike(one, other), False)
        one, other = made((2,), (2,), constant((2,), (0,))), made((2,), (3,), constant((3,), (0,)))
        self.assertIs(alike(one, other), False)


if __name__ == "__main__":
    unittest.main()
