"""Points 2, 3, 27, 28: maps, and tables pulled and pushed along them."""

import unittest
from itertools import product

from carrytower.errors import NoElement, NoLower, NoMap, NotLike, NoUpper
from carrytower.groups import Rounds
from carrytower.maps import Map, pulled, pushed
from carrytower.sums import both
from carrytower.tables import Table, alike, break_of_three
from carrytower.weighings import kind_of
from helper import (
    SHAPES, add_places, all_tuples, any_build, any_carries, any_images, images_for, led_by, odd_things, rebuilt, walk_three,
    walked_kind,
)

WAYS = [
    ((), ()), ((), (4,)), ((4,), ()), ((2,), (2,)), ((2,), (4,)), ((4,), (2,)), ((3,), (9,)), ((9,), (3,)), ((2,), (3,)),
    ((2, 2), (2,)), ((2,), (2, 2)), ((4, 2), (2, 4)), ((2, 3), (6,)), ((6,), (2, 3)), ((2, 2, 2), (4, 2)), ((8,), (2, 4)),
    ((2, 2), (2, 2)), ((3, 3), (3, 3)), ((12,), (8,)), ((4,), (2, 2, 2)), ((2, 2), (2, 2, 2)), ((5,), (2, 5)),
]
GREAT = [((144,), (144,)), ((144,), (12, 12)), ((2,) * 7, (2,) * 7), ((12, 12), (3, 48)), ((), (144,)), ((144,), ())]


def some_images(source, goal):
    """All lists of images of a few, else some of them."""
    rows = [list(row) for row in product(*images_for(source, goal))] if len(all_tuples(source)) < 20 else []
    if 0 < len(rows) <= 40:
        return rows
    return [any_images(source, goal, seed) for seed in range(5)]


def way_of(source, goal, images):
    return Map(Rounds(source), Rounds(goal), images)


def made(lower, upper, carries):
    return Table(Rounds(lower), Rounds(upper), dict(carries))


class Maps(unittest.TestCase):
    """Point 27."""

    def test_led(self):
        for source, goal in WAYS + GREAT:
            for images in some_images(source, goal):
                way = way_of(source, goal, images)
                for x in all_tuples(source):
                    self.assertEqual(way.led(x), led_by(goal, images, x))
                    self.assertIs(type(way.led(x)), tuple)

    def test_sums_to_sums(self):
        for source, goal in WAYS:
            for images in some_images(source, goal)[:8]:
                way = way_of(source, goal, images)
                led = {x: way.led(x) for x in all_tuples(source)}
                for x in led:
                    for y in led:
                        self.assertEqual(led[add_places(source, x, y)], add_places(goal, led[x], led[y]))

    def test_fields(self):
        source, goal = Rounds((2, 4)), Rounds((4, 2))
        way = Map(source, goal, [(2, 1), (1, 0)])
        self.assertIs(way.source, source)
        self.assertIs(way.goal, goal)
        same = Map(source, source, source.heads())
        self.assertEqual([same.led(x) for x in source.members()], source.members())

    def test_the_list_stays(self):
        for source, goal in WAYS:
            images = any_images(source, goal, 1)
            handed = list(images)
            way = way_of(source, goal, handed)
            self.assertEqual(handed, images)
            handed[:] = [None] * len(handed)
            handed.append("more")
            handed.reverse()
            for x in all_tuples(source):
                self.assertEqual(way.led(x), led_by(goal, images, x))
            handed.clear()
            for x in all_tuples(source):
                self.assertEqual(way.led(x), led_by(goal, images, x))

    def test_no_element(self):
        for source, goal in (((), (4,)), ((4,), ()), ((2, 4), (4,)), ((3,), (3, 3))):
            way = way_of(source, goal, any_images(source, goal, 2))
            nought = (0,) * len(source)
            near = [list(nought), nought + (0,), source or (0,), nought[1:] + (True,), nought[1:] + (-1,), (0, 0, 0), "0,0"]
            for thing in odd_things() + near:
                with self.assertRaises(NoElement):
                    way.led(thing)

    def refused(self, source, goal, images, wanted):
        handed = list(images)
        with self.assertRaises(NoMap) as caught:
            way_of(source, goal, handed)
        self.assertEqual(caught.exception.head, wanted)
        self.assertIs(type(caught.exception.head), int)
        self.assertEqual(len(handed), len(images))

    def wrong_images(self, source, goal, at):
        """Things that are no image of a round."""
        nought, right = (0,) * len(goal), images_for(source, goal)[at]
        wrong = [a for a in all_tuples(goal) if a not in right] + odd_things()
        wrong += [list(nought), nought + (0,), (nought,), nought + (True,), goal or (0,), (0,) * (len(goal) + 2)]
        if goal:
            wrong += [nought[1:], nought[1:] + (False,), (False,) + nought[1:], nought[1:] + (-1,), nought[1:] + (10 ** 59,)]
        return wrong

    def test_no_map_each_image(self):
        for source, goal in WAYS:
            images = any_images(source, goal, 3)
            for at in range(len(source)):
                for thing in self.wrong_images(source, goal, at):
                    self.refused(source, goal, images[:at] + [thing] + images[at + 1:], at)
                    self.refused(source, goal, images[:at] + [thing], at)
                    self.refused(source, goal, images[:at] + [thing] * (len(source) - at), at)
                    self.refused(source, goal, images[:at] + [thing] + images[at + 1:] + [thing], at)
                self.refused(source, goal, images[:at], at)

    def test_not_taken_to_the_nought(self):
        self.refused((2, 4), (8,), [(4,), (1,)], 1)
        self.refused((2, 4), (8,), [(2,), (2,)], 0)
        self.refused((2, 4), (8,), [(2,), (1,)], 0)
        self.refused((2, 4), (8,), [(2,)], 0)
        self.refused((3,), (2,), [(1,)], 0)
        self.assertEqual(way_of((2, 4), (8,), [(4,), (2,)]).led((1, 3)), (2,))

    def test_more_images_than_rounds(self):
        for source, goal in WAYS:
            images = any_images(source, goal, 4)
            for more in ([(0,) * len(goal)], [None], [True, True], [(0,) * len(goal)] * (300 - len(source))):
                self.refused(source, goal, images + more, len(source))

    def test_none_ahead_of_wanting(self):
        self.refused((2, 2, 2), (2,), [(0,), None], 1)
        self.refused((2, 2, 2), (2,), [None, (0,)], 0)
        self.refused((2, 2, 2), (2,), [(0,), (1,)], 2)
        self.refused((2, 2, 2), (2,), [], 0)
        self.refused((2, 2, 2), (2,), [(0,), (1,), (2,)], 2)
        self.refused((2, 2, 2), (2,), [(0,), (True,), (2,)], 1)

    def test_any_list_for_great_groups(self):
        for source, goal in GREAT:
            images = any_images(source, goal, 1)
            self.assertEqual(way_of(source, goal, images).led((0,) * len(source)), (0,) * len(goal))
            self.refused(source, goal, images + [None], len(source))
        self.refused((2,) * 7, (144,), [(72,)] * 6 + [(36,)], 6)


class Behind(unittest.TestCase):
    """Point 27, one map behind another."""

    def test_walked(self):
        for first, second, third in (
            ((), (), ()), ((2,), (4,), (8,)), ((4,), (2,), (2, 2)), ((2, 2), (2, 4), (4,)), ((3,), (3, 3), (9,)), ((6,), (2, 3), (12,)),
            ((4,), (), (4,)), ((), (4,), (2,)), ((2, 4), (4, 2), (2, 4)), ((12,), (12,), (12,)), ((144,), (12, 12), (144,)),
        ):
            for seed in range(4):
                near, far = any_images(first, second, seed), any_images(second, third, seed + 9)
                one, other = way_of(second, third, far), way_of(first, second, near)
                told = one.behind(other)
                self.assertIsInstance(told, Map)
                self.assertTrue(told.source.like(other.source))
                self.assertTrue(told.goal.like(one.goal))
                self.assertEqual([told.source.rounds, told.goal.rounds], [first, third])
                for x in all_tuples(first):
                    self.assertEqual(told.led(x), led_by(third, far, led_by(second, near, x)))
                    self.assertEqual(other.led(x), led_by(second, near, x))
                for x in all_tuples(second):
                    self.assertEqual(one.led(x), led_by(third, far, x))

    def test_not_like(self):
        for (first, second), (third, fourth) in product(WAYS[:12], WAYS[:12]):
            one, other = way_of(first, second, any_images(first, second, 1)), way_of(third, fourth, any_images(third, fourth, 1))
            if fourth == first:
                self.assertEqual(one.behind(other).source.rounds, third)
            else:
                with self.assertRaises(NotLike):
                    one.behind(other)


class Pulled(unittest.TestCase):
    """Point 28."""

    def shapes(self):
        for seed, (lower, upper) in enumerate(SHAPES):
            for source in ((), (2,), (4,), (2, 2), (3,), (3, 3), (2, 4), (9,), (2, 2, 2), (6,)):
                yield lower, upper, source, any_images(source, upper, seed)

    def wanted(self, carries, upper, source, images):
        led = {x: led_by(upper, images, x) for x in all_tuples(source)}
        return {(x, y): carries[(led[x], led[y])] for x in led for y in led}

    def test_carry_by_carry(self):
        for at, (lower, upper, source, images) in enumerate(self.shapes()):
            for carries in (any_carries(lower, upper, at), any_build(lower, upper, at).carries):
                table, way = made(lower, upper, carries), way_of(source, upper, images)
                told = pulled(table, way)
                self.assertIsInstance(told, Table)
                self.assertEqual(told.carries(), self.wanted(carries, upper, source, images))
                self.assertIs(told.lower, table.lower)
                self.assertIs(told.upper, way.source)
                self.assertEqual(table.carries(), carries)

    def test_the_rule_and_kinds(self):
        for at, (lower, upper, source, images) in enumerate(self.shapes()):
            one, way = any_build(lower, upper, at), way_of(source, upper, images)
            other = rebuilt(one, at)
            told = pulled(one.table(), way)
            self.assertIsNone(break_of_three(told))
            kind = walked_kind(lower, source, self.wanted(one.carries, upper, source, images))
            self.assertEqual(kind_of(told), kind)
            self.assertEqual(kind_of(pulled(other.table(), way)), kind)

    def test_sums_to_sums(self):
        for at, (lower, upper, source, images) in enumerate(self.shapes()):
            one, other, way = any_build(lower, upper, at).table(), any_build(lower, upper, at + 1).table(), way_of(source, upper, images)
            self.assertTrue(alike(pulled(both(one, other), way), both(pulled(one, way), pulled(other, way))))

    def test_behind(self):
        for at, (lower, upper, source, images) in enumerate(self.shapes()):
            table, way = any_build(lower, upper, at).table(), way_of(source, upper, images)
            for farther in ((), (2,), (4, 2), (3,)):
                before = way_of(farther, source, any_images(farther, source, at))
                self.assertTrue(alike(pulled(table, way.behind(before)), pulled(pulled(table, way), before)))

    def test_not_like(self):
        for lower, upper in (((4,), (2, 4)), ((), ()), ((2,), (4,)), ((2,), ())):
            for goal in ((4, 2), (2,), (4,), (8,), (2, 2, 2), (), (16,)):
                for source in ((2,), (), (10,), (144,), (2, 2, 3)):
                    if goal == upper:
                        continue
                    for table in (any_build(lower, upper, 1).table(), made(lower, upper, any_carries(lower, upper, 1))):
                        with self.assertRaises(NotLike):
                            pulled(table, way_of(source, goal, any_images(source, goal, 1)))

    def test_no_upper(self):
        for lower, upper in (((4,), (2, 4)), ((), ()), ((2,), (4,)), ((2,), (3, 3))):
            for source in ((10,), (2, 5), (11,), (144,), (12, 12), (2, 2, 2, 2)):
                for table in (any_build(lower, upper, 1).table(), made(lower, upper, any_carries(lower, upper, 1))):
                    with self.assertRaises(NoUpper):
                        pulled(table, way_of(source, upper, any_images(source, upper, 1)))


class Pushed(unittest.TestCase):
    """Point 28."""

    def shapes(self):
        for seed, (lower, upper) in enumerate(SHAPES):
            for goal in ((), (2,), (16,), (2, 2), (3,), (9,), (2, 8), (2, 2, 2, 2), (12,)):
                yield lower, upper, goal, any_images(lower, goal, seed)

    def wanted(self, carries, goal, images):
        return {key: led_by(goal, images, carries[key]) for key in carries}

    def test_carry_by_carry(self):
        for at, (lower, upper, goal, images) in enumerate(self.shapes()):
            for carries in (any_carries(lower, upper, at), any_build(lower, upper, at).carries):
                table, way = made(lower, upper, carries), way_of(lower, goal, images)
                told = pushed(table, way)
                self.assertIsInstance(told, Table)
                self.assertEqual(told.carries(), self.wanted(carries, goal, images))
                self.assertIs(told.lower, way.goal)
                self.assertIs(told.upper, table.upper)
                self.assertEqual(table.carries(), carries)

    def test_the_rule_and_kinds(self):
        for at, (lower, upper, goal, images) in enumerate(self.shapes()):
            one, way = any_build(lower, upper, at), way_of(lower, goal, images)
            told = pushed(one.table(), way)
            wanted = self.wanted(one.carries, goal, images)
            self.assertEqual(walk_three(goal, upper, wanted), [])
            self.assertEqual(kind_of(told), walked_kind(goal, upper, wanted))
            self.assertEqual(kind_of(pushed(rebuilt(one, at).table(), way)), kind_of(told))

    def test_sums_to_sums(self):
        for at, (lower, upper, goal, images) in enumerate(self.shapes()):
            one, other, way = any_build(lower, upper, at).table(), any_build(lower, upper, at + 1).table(), way_of(lower, goal, images)
            self.assertTrue(alike(pushed(both(one, other), way), both(pushed(one, way), pushed(other, way))))

    def test_behind_and_beside(self):
        for at, (lower, upper, goal, images) in enumerate(self.shapes()):
            table, way = any_build(lower, upper, at).table(), way_of(lower, goal, images)
            for farther in ((), (2,), (4, 2)):
                after = way_of(goal, farther, any_images(goal, farther, at))
                self.assertTrue(alike(pushed(table, after.behind(way)), pushed(pushed(table, way), after)))
            across = way_of((2, 2), upper, any_images((2, 2), upper, at))
            self.assertTrue(alike(pushed(pulled(table, across), way), pulled(pushed(table, way), across)))

    def test_not_like(self):
        for lower, upper in (((2, 4), (4,)), ((), ()), ((4,), (2,)), ((), (2,))):
            for source in ((4, 2), (2,), (4,), (8,), (2, 2, 2), (), (16,)):
                for goal in ((2,), (), (17,), (144,), (2, 2, 5)):
                    if source == lower:
                        continue
                    for table in (any_build(lower, upper, 1).table(), made(lower, upper, any_carries(lower, upper, 1))):
                        with self.assertRaises(NotLike):
                            pushed(table, way_of(source, goal, any_images(source, goal, 1)))

    def test_no_lower(self):
        for lower, upper in (((2, 4), (4,)), ((), ()), ((4,), (2,)), ((16,), (9,))):
            for goal in ((17,), (2, 9), (18,), (144,), (12, 12), (2, 2, 2, 3)):
                for table in (any_build(lower, upper, 1).table(), made(lower, upper, any_carries(lower, upper, 1))):
                    with self.assertRaises(NoLower):
                        pushed(table, way_of(lower, goal, any_images(lower, goal, 1)))
            self.assertEqual(pushed(table, way_of(lower, (2, 8), any_images(lower, (2, 8), 1))).lower.rounds, (2, 8))


if __name__ == "__main__":
    unittest.main()
