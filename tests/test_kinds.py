"""Points 2, 3, 25, 26: all kinds of two groups by rounds, the table of each, sums of kinds."""

import unittest
from itertools import product
from math import gcd

from carrytower.errors import NoKind, NoLower, NoUpper, TooMany
from carrytower.groups import Rounds
from carrytower.kinds import how_many, kind_sum, kinds_of, table_of_kind
from carrytower.sameness import compared
from carrytower.sums import both
from carrytower.tables import Table
from carrytower.weighings import kind_of
from helper import (
    SHAPES, Model, add_places, all_rounds, all_tuples, any_build, even_towers, many_times, odd_things, odds_for, own_carries,
    rest_of, stack, two_rounds, uneven_towers, walk_three,
)


def choices(lower, upper):
    """For each part of a kind all elements that may stand there, by the document's words."""
    rests = [[a for a in all_tuples(lower) if all(k < gcd(n, m) for k, m in zip(a, lower))] for n in upper]
    return rests + [odds_for(lower, upper, i, j) for i, j in sorted(two_rounds(upper))]


def number_of(lower, upper):
    many = 1
    for n in upper:
        for m in lower:
            many *= gcd(n, m)
    for i, j in two_rounds(upper):
        many *= len(odds_for(lower, upper, i, j))
    return many


def listed(lower, upper):
    return sorted((row[:len(upper)], row[len(upper):]) for row in product(*choices(lower, upper)))


def first_and_last(lower, upper):
    rows = choices(lower, upper)
    ends = [tuple(row[0] for row in rows), tuple(row[-1] for row in rows), tuple(row[len(row) // 2] for row in rows)]
    return [(row[:len(upper)], row[len(upper):]) for row in ends]


def all_shapes():
    return [(lower, upper) for lower in all_rounds(16) for upper in all_rounds(9)]


def bad_groups():
    """Two groups of which one or both are none, with the refusal."""
    uneven, even, great = uneven_towers()[0].group(), even_towers()[3].group(), stack((2,), [(9,)]).group()
    bad_uppers = [Rounds((10,)), Rounds((2, 2, 3)), Rounds((144,)), even, uneven]
    for lower in (Rounds((17,)), Rounds((2, 9)), Rounds((144,)), uneven, great):
        for upper in bad_uppers + [Rounds((2, 2)), Rounds(()), Rounds((2, 2, 2))]:
            yield lower, upper, NoLower
    for lower in (Rounds((2,)), Rounds(()), Rounds((16,)), Rounds((2, 2, 2, 2))):
        for upper in bad_uppers:
            yield lower, upper, NoUpper


class Listed(unittest.TestCase):
    """Point 25: how many, and which."""

    def test_how_many(self):
        for lower, upper in all_shapes():
            self.assertEqual(how_many(Rounds(lower), Rounds(upper)), number_of(lower, upper))

    def test_how_many_by_hand(self):
        for lower, upper, many in (
            ((), (), 1), ((16,), (), 1), ((), (9,), 1), ((2,), (2,), 2), ((4,), (2,), 2), ((2,), (4,), 2), ((3,), (2,), 1),
            ((2,), (2, 2), 8), ((2,), (2, 2, 2), 64), ((4,), (2, 4), 16), ((3, 3), (3, 3), 729), ((2, 2, 2, 2), (2, 2, 2), 2 ** 24),
            ((16,), (8,), 8), ((12,), (8,), 4), ((2, 2), (2, 2), 64), ((5,), (3, 3), 1),
        ):
            told = how_many(Rounds(lower), Rounds(upper))
            self.assertEqual(told, many)
            self.assertIs(type(told), int)

    def test_kinds_rising_each_once(self):
        for lower, upper in all_shapes():
            if number_of(lower, upper) <= 300:
                told = kinds_of(Rounds(lower), Rounds(upper))
                self.assertIs(type(told), list)
                self.assertEqual(told, listed(lower, upper))
                self.assertEqual(len(told), how_many(Rounds(lower), Rounds(upper)))

    def test_their_form(self):
        for lower, upper in (((), ()), ((3,), ()), ((), (2, 2)), ((4,), (2, 2)), ((2,), (2, 2, 2))):
            told = kinds_of(Rounds(lower), Rounds(upper))
            self.assertEqual(repr(told), repr(listed(lower, upper)))

    def test_too_many(self):
        counts = set()
        for lower, upper in all_shapes():
            many = number_of(lower, upper)
            if many > 300:
                counts.add(many)
                with self.assertRaises(TooMany) as caught:
                    kinds_of(Rounds(lower), Rounds(upper))
                self.assertEqual(caught.exception.many, many)
        self.assertIn(2 ** 24, counts)
        self.assertIn(512, counts)

    def test_the_list_is_ones_own(self):
        lower, upper = Rounds((4,)), Rounds((2, 2))
        kinds_of(lower, upper).clear()
        told = kinds_of(lower, upper)
        told[0] = None
        self.assertEqual(kinds_of(lower, upper), listed((4,), (2, 2)))

    def test_no_groups(self):
        for lower, upper, refusal in bad_groups():
            for ask in (how_many, kinds_of):
                with self.assertRaises(refusal):
                    ask(lower, upper)

    def test_these_are_all(self):
        """Each table with the rule for three, gone through one by one, has one of them; relabelings join just these."""
        for lower, upper in (((2,), (2,)), ((3,), (2,)), ((4,), (2,)), ((2, 2), (2,)), ((2,), (3,)), ((3,), ()), ((), (2, 2)),
                             ((3,), (3,))):
            members, model = all_tuples(upper), Model(lower)
            keys = [(x, y) for x in members for y in members]
            ruled = self.ruled_tables(lower, upper, keys)
            labelings = [dict(zip(members, row)) for row in product(model.members, repeat=len(members))]
            owns = [own_carries(model, upper, h) for h in labelings]
            orbits = {}
            for carries in ruled:
                orbit = min(tuple(add_places(lower, carries[key], own[key]) for key in keys) for own in owns)
                orbits.setdefault(orbit, set()).add(kind_of(Table(Rounds(lower), Rounds(upper), carries)))
            self.assertEqual(sorted(orbits.values(), key=sorted), [{kind} for kind in kinds_of(Rounds(lower), Rounds(upper))])

    def ruled_tables(self, lower, upper, keys):
        """All tables with the rule for three; carry(0, y) and carry(x, 0) are carry(0, 0) in them."""
        nought = (0,) * len(upper)
        free = [key for key in keys if nought not in key]
        for first in all_tuples(lower):
            for row in product(all_tuples(lower), repeat=len(free)):
                carries = {**{key: first for key in keys}, **dict(zip(free, row))}
                if not walk_three(lower, upper, carries):
                    yield carries

    def test_all_tables_over_two_rounds(self):
        """Upon 2 with 2x2 above: as many level tables of each kind, and as many kinds, as are told."""
        lower, upper = (2,), (2, 2)
        members = all_tuples(upper)
        free = [(x, y) for x in members[1:] for y in members[1:]]
        found = {}
        for row in product(all_tuples(lower), repeat=len(free)):
            carries = {**{(x, y): (0,) for x in members for y in members}, **dict(zip(free, row))}
            if not walk_three(lower, upper, carries):
                kind = kind_of(Table(Rounds(lower), Rounds(upper), carries))
                found[kind] = found.get(kind, 0) + 1
        self.assertEqual(sorted(found), kinds_of(Rounds(lower), Rounds(upper)))
        # Labels of the three elements beside the nought, but for those that lead sums to sums.
        self.assertEqual(set(found.values()), {2 ** 3 // 4})


def wrong_kinds(lower, upper, kind):
    """Things that come near to a kind of two groups."""
    rests, odd_ones = kind
    wrong = [
        [rests, odd_ones], (list(rests), odd_ones), (rests, list(odd_ones)), (rests,), (rests, odd_ones, ()), rests + odd_ones,
        (rests + ((0,) * len(lower),), odd_ones), (rests, odd_ones + ((0,) * len(lower),)), {0: rests, 1: odd_ones},
        (rests, None), (None, odd_ones), (rests, 0), (True, odd_ones), (rests, "()"), ("()", odd_ones), repr(kind), kind + kind,
        (kind,), (rests, kind), (kind, odd_ones), (odd_ones + (None,), rests), (rests + (None,), odd_ones), (rests, odd_ones + (0,)),
    ]
    if rests:
        wrong += [(rests[1:], odd_ones), (rests[:-1], odd_ones)]
    if odd_ones:
        wrong += [(rests, odd_ones[1:]), (rests, odd_ones[:-1]), (rests, ())]
    rows = choices(lower, upper)
    parts = rests + odd_ones
    for at, right in enumerate(rows):
        things = [a for a in all_tuples(lower) if a not in right] + odd_things()
        a = parts[at]
        things += [list(a), a + (0,), (a,), a + (True,), lower or (0,), tuple(-1 for _ in a) or (0,)]
        if a:
            things += [a[1:], (bool(a[0]),) + a[1:], a[:-1] + (a[-1] == 1,), a[:-1] + (None,), a[:-1] + (10 ** 59,)]
            things += [a[:-1] + ("0",), a[:-1] + (lower[-1],), a[:-1] + (a[-1] - lower[-1],)]
        for thing in things:
            changed = parts[:at] + (thing,) + parts[at + 1:]
            wrong.append((changed[:len(upper)], changed[len(upper):]))
    return wrong


class Tables(unittest.TestCase):
    """Point 25: the table of a kind."""

    def wanted(self, lower, upper, kind):
        """The plain table of the rests and the pair tables of the odds, added up."""
        rests, odd_ones = kind
        model, members = Model(lower), all_tuples(upper)
        carries = {}
        for x in members:
            for y in members:
                parts = [c for c, k, m, n in zip(rests, x, y, upper) if k + m >= n]
                parts += [many_times(lower, x[i] * y[j], a) for (i, j), a in zip(sorted(two_rounds(upper)), odd_ones)]
                carries[(x, y)] = model.total(parts)
        return carries

    def held(self, lower, upper, kind):
        below, above = Rounds(lower), Rounds(upper)
        table = table_of_kind(below, above, kind)
        self.assertIsInstance(table, Table)
        self.assertEqual(table.carries(), self.wanted(lower, upper, kind))
        self.assertTrue(table.lower.like(below) and table.upper.like(above))
        self.assertEqual(kind_of(table), kind)

    def test_each_kind(self):
        for lower, upper in SHAPES:
            if number_of(lower, upper) <= 64:
                for kind in kinds_of(Rounds(lower), Rounds(upper)):
                    self.held(lower, upper, kind)

    def test_ends_of_all_shapes(self):
        for lower, upper in all_shapes()[::3]:
            for kind in first_and_last(lower, upper):
                self.held(lower, upper, kind)

    def test_where_there_are_more_than_three_hundred(self):
        for lower, upper in (((2, 2, 2, 2), (2, 2, 2)), ((3, 3), (3, 3)), ((2, 2), (2, 2, 2)), ((2, 2, 4), (2, 4))):
            self.assertGreater(number_of(lower, upper), 300)
            for kind in first_and_last(lower, upper):
                self.held(lower, upper, kind)
            for thing in wrong_kinds(lower, upper, first_and_last(lower, upper)[1])[:60]:
                with self.assertRaises(NoKind):
                    table_of_kind(Rounds(lower), Rounds(upper), thing)

    def test_no_two_kinds_are_the_same(self):
        for lower, upper in (((2,), (2, 2)), ((4,), (4,)), ((3,), (3,)), ((6,), (2, 2)), ((), (2,)), ((2,), ())):
            tables = [table_of_kind(Rounds(lower), Rounds(upper), kind) for kind in kinds_of(Rounds(lower), Rounds(upper))]
            for i, one in enumerate(tables):
                for j, other in enumerate(tables):
                    self.assertEqual(compared(one, other)[0], "same" if i == j else "apart")

    def test_no_kind(self):
        for lower, upper in (
            ((), ()), ((3,), ()), ((), (2,)), ((), (2, 2)), ((2,), (2,)), ((4,), (2,)), ((5,), (3,)), ((4,), (2, 4)), ((9,), (3, 3)),
            ((2, 4), (2, 2)), ((2,), (2, 2, 2)), ((8,), (2, 4)), ((6,), (3, 2)),
        ):
            below, above = Rounds(lower), Rounds(upper)
            for kind in first_and_last(lower, upper)[:2]:
                right = [repr(one) for one in first_and_last(lower, upper)]
                for thing in wrong_kinds(lower, upper, kind) + odd_things():
                    if isinstance(thing, tuple) and len(thing) == 2 and self.is_right(thing, right):
                        continue
                    for ask in (
                        lambda: table_of_kind(below, above, thing), lambda: kind_sum(below, above, thing, kind),
                        lambda: kind_sum(below, above, kind, thing), lambda: kind_sum(below, above, thing, thing),
                    ):
                        with self.assertRaises(NoKind):
                            ask()

    def is_right(self, thing, right):
        """A wrong kind may be right by chance: (rests, ()) with no rounds."""
        try:
            return repr(thing) in right
        except RecursionError:
            return False

    def test_the_words_by_hand(self):
        below, above = Rounds((4,)), Rounds((2, 4))
        self.assertIsInstance(table_of_kind(below, above, (((1,), (3,)), ((2,),))), Table)
        for thing in (
            (((2,), (3,)), ((2,),)), (((1,), (4,)), ((2,),)), (((1,), (3,)), ((1,),)), (((1,), (3,)), ((3,),)),
            (((True,), (3,)), ((2,),)), (((1,), (3,)), ((False,),)), (((1,), (3,)), ([2],)), (((1,), [3]), ((2,),)),
            (((1,), (3,)), ()), (((1,),), ((2,),)), (((1,), (3,), (0,)), ((2,),)), (((1,), (3,)), ((2,), (2,))),
            (((-1,), (3,)), ((2,),)), (((1,), (-1,)), ((2,),)), (((1,), (3,)), ((-2,),)), (((1,), (3,)), (2,)),
        ):
            with self.assertRaises(NoKind):
                table_of_kind(below, above, thing)

    def test_no_groups(self):
        for lower, upper, refusal in bad_groups():
            for thing in (None, ((), ()), (((0,),), ()), (((0,), (0,)), ((0,),)), True):
                for ask in (lambda: table_of_kind(lower, upper, thing), lambda: kind_sum(lower, upper, thing, ((), ()))):
                    with self.assertRaises(refusal):
                        ask()


class KindSums(unittest.TestCase):
    """Point 26."""

    def wanted(self, lower, upper, one, other):
        rests = tuple(rest_of(lower, n, add_places(lower, a, b)) for n, a, b in zip(upper, one[0], other[0]))
        return (rests, tuple(add_places(lower, a, b) for a, b in zip(one[1], other[1])))

    def test_sums_of_all_two(self):
        for lower, upper in (((), ()), ((3,), ()), ((), (2, 2)), ((4,), (4,)), ((12,), (8,)), ((2,), (2, 2)), ((4,), (2, 4)),
                             ((9,), (3, 3)), ((2, 4), (4,)), ((6,), (3, 2))):
            below, above = Rounds(lower), Rounds(upper)
            kinds = kinds_of(below, above)
            for one in kinds:
                for other in kinds:
                    told = kind_sum(below, above, one, other)
                    self.assertEqual(told, self.wanted(lower, upper, one, other))
                    self.assertIn(told, kinds)
                    self.assertEqual(repr(told), repr(self.wanted(lower, upper, one, other)))

    def test_sums_of_tables(self):
        for lower, upper in SHAPES:
            for seed in range(3):
                one, other = any_build(lower, upper, seed), any_build(lower, upper, seed + 7)
                whole = kind_of(both(one.table(), other.table()))
                self.assertEqual(whole, kind_sum(Rounds(lower), Rounds(upper), one.kind(), other.kind()))
                self.assertEqual(whole, self.wanted(lower, upper, one.kind(), other.kind()))

    def test_many_kinds(self):
        lower, upper = (2, 2, 2, 2), (2, 2, 2)
        for one in first_and_last(lower, upper):
            for other in first_and_last(lower, upper):
                self.assertEqual(kind_sum(Rounds(lower), Rounds(upper), one, other), self.wanted(lower, upper, one, other))

    def test_refused_like_table_of_kind(self):
        below, above = Rounds((4,)), Rounds((2, 4))
        good = (((1,), (3,)), ((2,),))
        for bad in (None, ((), ()), (((2,), (3,)), ((2,),)), (((1,), (3,)), ((1,),)), [((1,), (3,)), ((2,),)]):
            for one, other in ((good, bad), (bad, good), (bad, bad)):
                with self.assertRaises(NoKind):
                    kind_sum(below, above, one, other)


if __name__ == "__main__":
    unittest.main()
