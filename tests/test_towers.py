"""Points 2, 3, 5, 6, 11, 12: towers, held against models that are walked by the document's words."""

import unittest
from random import Random

from carrytower.errors import CarryError, NoElement, NoTower
from carrytower.groups import Group, Rounds
from carrytower.tables import Table, break_of_three, break_of_two
from carrytower.towers import Tower
from helper import (
    Model, all_tuples, any_over, even_towers, great_towers, odd_things, paired_over, ruled_over, stack, uneven_towers,
    walk_three_over, walk_two,
)

WHOLE = (0, 1, 2, 3, 5, 16, 143, 144, 10 ** 59 + 7, 123456789012345678901234567890123456789012345678901234567890)


def small_towers():
    return [*even_towers(), *uneven_towers()]


def all_towers():
    return [*small_towers(), *great_towers()]


def some_of(members):
    """All of a few, else some two dozen from all over, the ends among them."""
    return members if len(members) <= 24 else members[::len(members) // 20] + members[-1:]


def near_things(model):
    """Things that come near to the elements of a model."""
    a, x = model.members[0]
    b, y = model.members[-1]
    near = [
        [a, x], [b, y], (a,), (x,), (a, x, x), (a, x, 0), (a, x, ()), (a, list(x)), (list(a), x), [list(b), list(y)],
        a, x, (a, x + (0,)), (a + (0,), x), (a, None), (None, x), ((a, x), x), (a, (a, x)), ((a, x), (b, y)), "ab",
        {a: x}, {0: a, 1: x}, (a, 0), (0, x), (a, True), (a, y + (True,)), (), (a, {}), ({}, x), b"ab",
    ]
    for at, n in enumerate(model.upper):
        for wrong in (n, n + 1, -1, -n, 10 ** 59, True, False, None, "0", (0,), [0]):
            near.append((a, x[:at] + (wrong,) + x[at + 1:]))
            near.append((b, y[:at] + (wrong,) + y[at + 1:]))
        near += [(a, x[1:]), (b, y[1:])]
    if model.lower.lower is not None:
        near += [(wrong, x) for wrong in near_things(model.lower)]
    else:
        near += [(a[:at] + (wrong,) + a[at + 1:], x)
                 for at, n in enumerate(model.lower.upper) for wrong in (n, -1, -n, 10 ** 59, True, False, None, "0", ())]
    return near


def no_elements(model):
    """Things that are no elements of a model, however near they come."""
    return [thing for thing in near_things(model) if not is_member(model, thing)] + odd_things()


def is_member(model, thing):
    """Whether the thing stands among a model's elements, kinds and all: Python takes True for 1."""
    return repr(thing) in {repr(p) for p in model.members}


class Making(unittest.TestCase):
    """Points 3 and 11: which tables make a tower, and which do not."""

    def held(self, lower, upper, carries):
        """Whether the table makes a tower, with all that is told of it where it does not."""
        threes = walk_three_over(lower, upper, carries)
        table = Table(lower.group(), Rounds(upper), carries)
        if not threes:
            tower = Tower(table)
            self.assertIsInstance(tower, Group)
            self.assertIs(tower.table, table)
            return True
        with self.assertRaises(NoTower) as caught:
            Tower(table)
        self.assertEqual(caught.exception.three, min(threes))
        self.assertIs(type(caught.exception.three), tuple)
        self.assertIsInstance(caught.exception, CarryError)
        self.assertEqual(table.carries(), carries)
        return False

    def test_tables_that_keep_the_rule(self):
        for model in all_towers():
            self.assertTrue(self.held(model.lower, model.upper, model.carries))

    def test_tables_without_any_rule(self):
        for seed, (lower, upper) in enumerate((
            (Model((2,)), (3,)), (Model((4,)), (2, 2)), (Model((2, 4)), (5,)), (Model((16,)), (9,)),
            (stack((2,), [(2,)], 1), (4,)), (stack((2,), [(2,), (2,)], 3), (2, 2)), (stack((3,), [(3,)], 3), (3, 3)),
        )):
            self.assertFalse(self.held(lower, upper, any_over(lower, upper, seed)))

    def test_each_table_of_two_over_two(self):
        keys = [((k,), (m,)) for k in range(2) for m in range(2)]
        made = [self.held(Model((2,)), (2,), {key: (bits >> at & 1,) for at, key in enumerate(keys)})
                for bits in range(16)]
        self.assertEqual(sum(made), 4)

    def test_tables_broken_at_one_place(self):
        for lower, upper in ((Model((3,)), (3,)), (Model((4,)), (2, 2)), (stack((2,), [(2,)], 2), (3,))):
            carries = ruled_over(lower, upper, 4)
            for key in carries:
                for other in lower.members:
                    self.assertEqual(self.held(lower, upper, {**carries, key: other}), other == carries[key])

    def test_tables_broken_at_several_places(self):
        chance = Random(5)
        for lower, upper in ((Model((3,)), (2, 2)), (Model((2, 4)), (3, 3)), (stack((2,), [(2,), (2,)], 3), (5,))):
            for many in (2, 3, 6, 12):
                for seed in range(4):
                    carries = ruled_over(lower, upper, seed)
                    for key in chance.sample(sorted(carries), many):
                        carries[key] = chance.choice(lower.members)
                    self.held(lower, upper, carries)

    def test_the_first_three_by_hand(self):
        carries = {((k,), (m,)): (0,) for k in range(3) for m in range(3)}
        for key, three in (
            (((0,), (1,)), ((0,), (0,), (1,))), (((1,), (0,)), ((1,), (0,), (0,))), (((2,), (2,)), ((1,), (1,), (2,))),
        ):
            with self.assertRaises(NoTower) as caught:
                Tower(Table(Rounds((2,)), Rounds((3,)), {**carries, key: (1,)}))
            self.assertEqual(caught.exception.three, three)

    def test_a_dict_changed_behind_the_call_changes_nothing(self):
        model = stack((4,), [(2, 2)], 1)
        handed = dict(model.carries)
        table = Table(Rounds([4]), Rounds([2, 2]), handed)
        tower = Tower(table)
        for key in list(handed):
            handed[key] = ((handed[key][0] + 1) % 4,)
        table.carries().clear()
        tower.table.carries().clear()
        for p, q in model.sums:
            self.assertEqual(tower.added(p, q), model.sums[(p, q)])
        handed.clear()
        self.assertEqual(tower.nought(), model.nought)
        self.assertEqual(tower.members(), model.members)

    def test_nothing_asked_changes_the_tower(self):
        for model in (even_towers()[9], uneven_towers()[1]):
            tower = model.group()
            table = tower.table
            for turn in range(2):
                self.assertEqual(tower.members(), model.members)
                for p in model.members:
                    tower.has(p), tower.order(p), tower.times(-5, p), tower.total([p, p]), tower.back(p)
                    self.assertRaises(NoElement, tower.back, [p])
                    for q in model.members:
                        self.assertEqual(tower.added(p, q), model.sums[(p, q)])
            self.assertIs(tower.table, table)
            self.assertEqual(table.carries(), model.carries)
            self.assertTrue(tower.like(model.group()))


class Elements(unittest.TestCase):
    """Point 11: the elements, how many, and what is none."""

    def test_members_are_all_pairs_sorted_and_new(self):
        for model in all_towers():
            tower = model.group()
            told = tower.members()
            self.assertIs(type(told), list)
            self.assertEqual(told, sorted((a, x) for a in model.lower.members for x in all_tuples(model.upper)))
            self.assertTrue(all(type(p) is tuple for p in told))
            told.reverse()
            told.append("more")
            del told[:3]
            self.assertEqual(tower.members(), model.members)
            self.assertEqual(tower.size(), len(model.members))

    def test_size(self):
        for model in all_towers():
            self.assertEqual(model.group().size(), len(model.members))
        self.assertEqual(stack((16,), [(9,)]).group().size(), 144)
        self.assertEqual(stack((), [()]).group().size(), 1)

    def test_has(self):
        for model in all_towers():
            tower = model.group()
            for p in model.members:
                self.assertIs(tower.has(p), True)
                self.assertIs(tower.has(list(p)), False)
            for thing in no_elements(model):
                self.assertIs(tower.has(thing), False)

    def test_has_as_the_first_question(self):
        for model in small_towers():
            self.assertIs(model.group().has(model.members[-1]), True)
            self.assertIs(model.group().has(list(model.members[-1])), False)

    def test_no_element_is_refused_everywhere(self):
        for model in small_towers():
            good = model.members[-1]
            asked, made_anew = model.group(), no_elements(model)[:12]
            for at, thing in enumerate(no_elements(model)):
                for ask in (
                    lambda g: g.added(thing, good), lambda g: g.added(good, thing), lambda g: g.added(thing, thing),
                    lambda g: g.back(thing), lambda g: g.order(thing), lambda g: g.times(0, thing),
                    lambda g: g.times(1, thing), lambda g: g.times(-1, thing), lambda g: g.times(10 ** 59, thing),
                    lambda g: g.times(-(10 ** 59), thing), lambda g: g.total([thing]),
                    lambda g: g.total([thing, good]), lambda g: g.total([good, thing, good]),
                    lambda g: g.total([good, good, thing]),
                ):
                    group = model.group() if at < len(made_anew) and len(model.members) <= 8 else asked
                    with self.assertRaises(NoElement):
                        ask(group)

    def test_a_refused_list_stays(self):
        model = even_towers()[4]
        handed = [model.members[1], model.members[2], None]
        with self.assertRaises(NoElement):
            model.group().total(handed)
        self.assertEqual(handed, [model.members[1], model.members[2], None])


class Reckoning(unittest.TestCase):
    """Points 5 and 11, held against the model; each also as the very first question of a tower made anew."""

    def test_some_noughts_are_not_all_0(self):
        for models in (even_towers(), uneven_towers(), great_towers()):
            odd = [model for model in models
                   if model.carries[(all_tuples(model.upper)[0],) * 2] != model.lower.nought]
            self.assertGreater(len(odd), 1)

    def test_nought(self):
        for model in all_towers():
            bottom = (0,) * len(model.upper)
            wanted = (model.lower.backs[model.carries[(bottom, bottom)]], bottom)
            self.assertEqual(model.group().nought(), wanted)
            self.assertEqual(model.nought, wanted)
            tower = model.group()
            for p in model.members:
                self.assertEqual(tower.added(wanted, p), p)
                self.assertEqual(tower.added(p, wanted), p)

    def test_every_carry_of_noughts(self):
        for lower in (Model((4,)), stack((2,), [(2,)], 1)):
            for shift in lower.members:
                model = Model((3,), lower, {key: lower.sums[(carried, shift)]
                                            for key, carried in ruled_over(lower, (3,), 2).items()})
                self.assertEqual(model.group().nought(), model.nought)
                for p in model.members:
                    self.assertEqual(model.group().back(p), model.backs[p])
                    self.assertEqual(model.group().times(0, p), model.nought)
                self.assertEqual(model.group().total([]), model.nought)

    def test_sums(self):
        for model in all_towers():
            tower = model.group()
            for p, q in model.sums:
                self.assertEqual(tower.added(p, q), model.sums[(p, q)])

    def test_sums_as_the_first_question(self):
        for model in small_towers():
            for p, q in some_of(sorted(model.sums)):
                self.assertEqual(model.group().added(p, q), model.sums[(p, q)])

    def test_backs(self):
        for model in all_towers():
            tower, lower = model.group(), model.lower
            bottom = (0,) * len(model.upper)
            for p in model.members:
                a, x = p
                away = tuple(-k % n for k, n in zip(x, model.upper))
                three = (a, model.carries[(x, away)], model.carries[(bottom, bottom)])
                self.assertEqual(tower.back(p), (lower.total([lower.backs[b] for b in three]), away))
                self.assertEqual(tower.back(p), model.backs[p])
                self.assertEqual(tower.added(p, tower.back(p)), model.nought)
                self.assertEqual(tower.added(tower.back(p), p), model.nought)

    def test_backs_as_the_first_question(self):
        for model in small_towers():
            for p in some_of(model.members):
                self.assertEqual(model.group().back(p), model.backs[p])

    def test_times_of_either_sign(self):
        for model in all_towers():
            tower = model.group()
            for p in some_of(model.members):
                reached = [model.nought]
                while len(reached) < model.order(p):
                    reached.append(model.sums[(reached[-1], p)])
                for n in WHOLE:
                    self.assertEqual(tower.times(n, p), reached[n % len(reached)])
                    self.assertEqual(tower.times(-n, p), reached[-n % len(reached)])

    def test_times_as_the_first_question(self):
        for model in small_towers():
            for p in some_of(model.members)[:9]:
                many = model.order(p)
                for n in (0, 1, -1, 10 ** 59, -(10 ** 59)):
                    self.assertEqual(model.group().times(n, p), model.total([p] * (n % many)))

    def test_order(self):
        for model in all_towers():
            tower = model.group()
            for p in model.members:
                self.assertEqual(tower.order(p), model.order(p))
        for model in small_towers():
            for p in some_of(model.members)[:9]:
                self.assertEqual(model.group().order(p), model.order(p))

    def test_total(self):
        chance = Random(8)
        for model in all_towers():
            self.assertEqual(model.group().total([]), model.nought)
            for many in (1, 2, 3, 7, 300):
                some = [chance.choice(model.members) for _ in range(many)]
                handed = list(some)
                self.assertEqual(model.group().total(handed), model.total(some))
                self.assertEqual(handed, some)

    def test_total_goes_from_the_first_one_on(self):
        for model in uneven_towers():
            p, q = [pair for pair in model.sums if model.sums[pair] != model.sums[pair[::-1]]][0]
            self.assertEqual(model.group().total([p, q]), model.sums[(p, q)])
            self.assertEqual(model.group().total([q, p]), model.sums[(q, p)])

    def test_answers_are_plain_tuples(self):
        tower = even_towers()[9].group()
        p, q = tower.members()[1], tower.members()[-1]
        for told in (tower.nought(), tower.added(p, q), tower.back(q), tower.times(5, q), tower.total([p]), tower.over((1,))[0]):
            self.assertIs(type(told), tuple)
            self.assertEqual([type(part) for part in told], [tuple, tuple])

    def test_adding_in_columns(self):
        carries = {((k,), (m,)): (int(k + m >= 9),) for k in range(9) for m in range(9)}
        tower = Tower(Table(Rounds((16,)), Rounds((9,)), carries))
        self.assertEqual(tower.added(((3,), (7,)), ((4,), (5,))), ((8,), (3,)))
        self.assertEqual(tower.order(((0,), (1,))), 144)
        self.assertEqual(tower.times(100, ((0,), (1,))), ((11,), (1,)))


class Evenness(unittest.TestCase):
    """Points 3 and 11: adding goes by any order just where the table is even."""

    def test_is_even(self):
        for model in all_towers():
            wanted = not walk_two(model.upper, model.carries)
            self.assertIs(model.group().is_even(), wanted)
            self.assertEqual(model.is_even(), wanted)
            self.assertEqual(break_of_two(model.group().table) is None, wanted)
        self.assertTrue(all(model.is_even() for model in even_towers() + great_towers()))
        self.assertFalse(any(model.is_even() for model in uneven_towers()))

    def test_pair_carries_of_each_element(self):
        for lower in (Model((4,)), Model((2, 2)), stack((2,), [(2,)], 1)):
            for a in lower.members:
                if lower.order(a) > 2:
                    continue
                model = Model((2, 2), lower, paired_over(lower, (2, 2), a, 6))
                self.assertIs(model.group().is_even(), lower.order(a) == 1)
                self.assertEqual(model.is_even(), lower.order(a) == 1)


class Likeness(unittest.TestCase):
    """Point 6."""

    def held(self, one, other, wanted):
        self.assertIs(one.like(other), wanted)
        self.assertIs(other.like(one), wanted)

    def test_towers_made_anew(self):
        for model in all_towers():
            self.held(model.group(), model.group(), True)
            tower = model.group()
            self.held(tower, tower, True)

    def test_all_against_all(self):
        told = [(model.spec(), model.group()) for model in all_towers()]
        for spec, group in told:
            for other_spec, other in told:
                self.assertIs(group.like(other), spec == other_spec)

    def test_one_carry_otherwise(self):
        keys = [((k,), (m,)) for k in range(2) for m in range(2)]
        made = []
        for bits in range(256):
            carries = {key: (bits >> 2 * at & 3,) for at, key in enumerate(keys)}
            if not walk_three_over(Model((4,)), (2,), carries):
                made.append(Tower(Table(Rounds((4,)), Rounds((2,)), carries)))
        self.assertEqual(len(made), 16)
        for at, one in enumerate(made):
            for to, other in enumerate(made):
                self.assertIs(one.like(other), at == to)

    def test_other_groups_with_the_same_carries(self):
        def flat(lower, upper):
            members = all_tuples(upper)
            return Tower(Table(Rounds(lower), Rounds(upper), {(x, y): (0,) * len(lower) for x in members for y in members}))
        self.held(flat((2,), (2,)), flat((3,), (2,)), False)
        self.held(flat((2, 4), (2,)), flat((4, 2), (2,)), False)
        self.held(flat((2,), (2, 3)), flat((2,), (3, 2)), False)
        self.held(flat((2,), ()), flat((3,), ()), False)
        self.held(flat((2,), (2,)), flat((2,), (2,)), True)

    def test_deep_below(self):
        def upon(model):
            group = model.group()
            for upper in ((), (2,)):
                members = all_tuples(upper)
                group = Tower(Table(group, Rounds(upper), {(x, y): group.nought() for x in members for y in members}))
            return group
        keys = [((k,), (m,)) for k in range(2) for m in range(2)]
        for shift in range(2):
            one, other = [Model((2,), Model((2,)), {key: (shift,) for key in keys[:3]} | {keys[3]: (k,)}) for k in range(2)]
            self.assertEqual(one.nought, other.nought)
            self.held(upon(one), upon(other), False)
            self.held(upon(one), upon(one), True)

    def test_a_tower_and_a_group_by_rounds(self):
        for model in all_towers():
            for rounds in ((), (2,), (2, 2), (4,), (144,), model.upper, model.lower.upper):
                self.held(model.group(), Rounds(rounds), False)
            self.held(model.group(), model.lower.group(), False)


class LyingAndOver(unittest.TestCase):
    """Point 12."""

    def test_lying(self):
        for model in all_towers():
            lower, bottom = model.lower, (0,) * len(model.upper)
            away = lower.backs[model.carries[(bottom, bottom)]]
            tower = model.group()
            led = {}
            for a in lower.members:
                led[a] = tower.lying(a)
                self.assertEqual(led[a], (lower.sums[(a, away)], bottom))
                self.assertIs(type(led[a]), tuple)
            for a, b in lower.sums:
                self.assertEqual(led[lower.sums[(a, b)]], model.sums[(led[a], led[b])])
            self.assertEqual(led[lower.nought], model.nought)
            self.assertEqual(model.group().lying(lower.members[-1]), led[lower.members[-1]])

    def test_over(self):
        for model in all_towers():
            tower = model.group()
            for x in all_tuples(model.upper):
                wanted = sorted((a, x) for a in model.lower.members)
                told = tower.over(x)
                self.assertIs(type(told), list)
                self.assertEqual(told, wanted)
                told.reverse()
                told.append("more")
                self.assertEqual(tower.over(x), wanted)
            self.assertEqual(model.group().over(x), wanted)

    def test_no_element(self):
        for model in small_towers():
            tower = model.group()
            lower, upper = model.lower, Model(model.upper)
            for thing in near_things(model) + model.members[:1]:
                if not is_member(lower, thing):
                    self.assertRaises(NoElement, tower.lying, thing)
                if not is_member(upper, thing):
                    self.assertRaises(NoElement, tower.over, thing)
            for thing in odd_things():
                self.assertRaises(NoElement, tower.lying, thing)
                self.assertRaises(NoElement, tower.over, thing)

    def test_the_one_group_is_not_the_other(self):
        tower = Tower(Table(Rounds((2,)), Rounds((3,)), {((k,), (m,)): (0,) for k in range(3) for m in range(3)}))
        self.assertEqual(tower.over((2,)), [((0,), (2,)), ((1,), (2,))])
        for made in (tower, Tower(tower.table)):
            self.assertRaises(NoElement, made.lying, (2,))
            self.assertRaises(NoElement, made.over, (3,))
            self.assertRaises(NoElement, made.lying, ((0,), (0,)))
            self.assertRaises(NoElement, made.over, ((0,), (0,)))
            self.assertRaises(NoElement, made.lying, [0])
            self.assertRaises(NoElement, made.over, (True,))


class Floors(unittest.TestCase):
    """Points 8 and 13: towers stand on towers."""

    def test_each_floor_is_a_table_over_the_one_below(self):
        model = great_towers()[-1]
        group, many = model.group(), 0
        while isinstance(group, Tower):
            self.assertIsNone(break_of_three(group.table))
            group, many = group.table.lower, many + 1
        self.assertEqual((many, group.rounds), (8, (2,)))
        self.assertEqual(model.group().size(), 144)

    def test_the_rule_for_any_three_of_the_tower(self):
        for model in small_towers():
            tower = model.group()
            for p in some_of(model.members)[:12]:
                for q in some_of(model.members)[-12:]:
                    for r in some_of(model.members)[::3]:
                        one = tower.added(tower.added(p, q), r)
                        self.assertEqual(one, tower.added(p, tower.added(q, r)))


if __name__ == "__main__":
    unittest.main()
