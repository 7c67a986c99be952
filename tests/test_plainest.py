"""Points 2, 3, 14: the plainest telling of a group, and the renumberings."""

import unittest

from carrytower.errors import Uneven
from carrytower.groups import Rounds
from carrytower.plainest import plainest
from carrytower.tables import Table
from carrytower.towers import Tower
from helper import (
    Model, all_rounds, all_tuples, even_towers, great_towers, paired, stack, uneven_towers, walk_two,
)


class Telling(unittest.TestCase):
    def held(self, model, group):
        """All that the document says of a telling, walked over all pairs; the rounds are given back."""
        told = plainest(group)
        self.assertIs(type(told), tuple)
        rounds, there, back = told
        self.assertEqual([type(rounds), type(there), type(back)], [tuple, dict, dict])
        self.assertTrue(all(type(n) is int and n >= 2 for n in rounds))
        self.assertTrue(all(m % n == 0 for n, m in zip(rounds, rounds[1:])), rounds)
        numbers = all_tuples(rounds)
        self.assertEqual(sorted(there), model.members)
        self.assertEqual(sorted(there.values()), numbers)
        self.assertEqual(sorted(back), numbers)
        self.assertEqual({back[there[p]]: there[p] for p in there}, there)
        self.assertTrue(all(type(x) is tuple and all(type(k) is int for k in x) for x in there.values()))
        for p, q in model.sums:
            wanted = tuple([(k + m) % n for k, m, n in zip(there[p], there[q], rounds)])
            if there[model.sums[(p, q)]] != wanted:
                self.fail(f"{p} + {q}")
        return rounds

    def test_by_hand(self):
        for rounds, wanted in (
            ((), ()), ((2,), (2,)), ((2, 3), (6,)), ((3, 2), (6,)), ((2, 2), (2, 2)), ((4, 2), (2, 4)), ((2, 4), (2, 4)),
            ((6, 4), (2, 12)), ((2, 3, 4), (2, 12)), ((4, 6, 6), (2, 6, 12)), ((9, 16), (144,)), ((144,), (144,)),
            ((12, 12), (12, 12)), ((8, 18), (2, 72)), ((2,) * 7, (2,) * 7), ((2, 2, 2, 2, 3, 3), (2, 2, 6, 6)),
            ((3, 6, 8), (6, 24)), ((5, 7), (35,)), ((11, 13), (143,)), ((2, 3, 5), (30,)),
        ):
            self.assertEqual(self.held(Model(rounds), Rounds(rounds)), wanted)

    def test_all_groups_by_rounds_up_to_forty_elements(self):
        for rounds in all_rounds(40):
            self.held(Model(rounds), Rounds(rounds))

    def test_the_rounds_of_all_groups_by_rounds(self):
        for rounds in all_rounds(144)[::5]:
            told = plainest(Rounds(rounds))[0]
            for order in range(1, 145):
                many = [len([x for x in range(n) if x * order % n == 0]) for n in rounds]
                kept = [len([x for x in range(n) if x * order % n == 0]) for n in told]
                self.assertEqual(product(many), product(kept))
            self.assertTrue(all(m % n == 0 for n, m in zip(told, told[1:])))

    def test_towers(self):
        for model in even_towers() + great_towers():
            rounds = self.held(model, model.group())
            self.assertEqual(rounds[-1] if rounds else 1, max(model.order(p) for p in model.members))

    def test_towers_of_one_element(self):
        for floors in (1, 2, 5):
            model = stack((), [()] * floors)
            self.assertEqual(self.held(model, model.group()), ())

    def test_towers_of_four_and_of_nine(self):
        seen = set()
        for seed in range(12):
            for n in (2, 3):
                model = stack((n,), [(n,)], seed)
                seen.add(self.held(model, model.group()))
        self.assertEqual(seen, {(4,), (2, 2), (9,), (3, 3)})

    def test_adding_in_columns(self):
        carries = {((k,), (m,)): (int(k + m >= 9),) for k in range(9) for m in range(9)}
        model = Model((9,), Model((12,)), carries)
        self.assertEqual(self.held(model, model.group()), (108,))

    def test_more_towers_upon_towers(self):
        for seed in range(6):
            for ground, uppers in (((2,), [(2,), (2,), (4,)]), ((2, 2), [(2,), (2, 2)]), ((3,), [(3,), (3, 3)])):
                model = stack(ground, uppers, seed)
                self.held(model, model.group())

    def test_pair_carries_of_nothing_are_even(self):
        lower = stack((2,), [(2,)], 1)
        model = paired(lower, (2, 2), lower.nought, 2)
        self.held(model, model.group())

    def test_uneven(self):
        for model in uneven_towers():
            with self.assertRaises(Uneven) as caught:
                plainest(model.group())
            self.assertEqual(caught.exception.two, min(walk_two(model.upper, model.carries)))
            self.assertIs(type(caught.exception.two), tuple)

    def test_uneven_by_hand(self):
        members = all_tuples((2, 2))
        carries = {(x, y): (x[0] * y[1],) for x in members for y in members}
        with self.assertRaises(Uneven) as caught:
            plainest(Tower(Table(Rounds((2,)), Rounds((2, 2)), carries)))
        self.assertEqual(caught.exception.two, ((0, 1), (1, 0)))

    def test_the_told_dicts_emptied_and_told_again(self):
        for model in (Model((2, 3)), Model((4, 2)), *even_towers()[8:11]):
            group = model.group()
            rounds, there, back = plainest(group)
            kept = (rounds, dict(there), dict(back))
            there.clear()
            self.assertEqual(back, kept[2])
            back.clear()
            self.assertEqual(plainest(group), kept)
            self.assertEqual(group.members(), model.members)
            self.assertEqual(self.held(model, group), rounds)

    def test_the_group_stays(self):
        model = stack((2,), [(2,), (2,)], 3)
        group = model.group()
        plainest(group)
        self.assertTrue(group.like(model.group()))
        self.assertEqual(group.table.carries(), model.carries)


def product(numbers):
    whole = 1
    for n in numbers:
        whole *= n
    return whole


if __name__ == "__main__":
    unittest.main()
