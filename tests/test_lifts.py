"""Points 2, 3, 29: lifts of maps to towers."""

import unittest
from itertools import product

from carrytower.errors import NoTower, NotLike, NoUpper
from carrytower.groups import Rounds
from carrytower.lifts import lift
from carrytower.maps import Map, pulled
from carrytower.tables import Table, break_of_three
from helper import (
    SHAPES, Build, Model, add_places, all_tuples, any_build, any_carries, any_images, any_labels, head, images_for, led_by, two_rounds,
    walk_three, walked_kind,
)

SOURCES = ((), (2,), (4,), (2, 2), (3,), (3, 3), (2, 4), (9,), (2, 2, 2), (6,))


def way_of(source, goal, images):
    return Map(Rounds(source), Rounds(goal), images)


def made(lower, upper, carries):
    return Table(Rounds(lower), Rounds(upper), dict(carries))


def pulled_kind(build, source, images):
    """The kind of the pulled carries, by the words of the document."""
    led = {x: led_by(build.upper, images, x) for x in all_tuples(source)}
    return walked_kind(build.lower, source, {(x, y): build.carries[(led[x], led[y])] for x in led for y in led})


def wanted_paper(kind, source):
    rests, odd_ones = kind
    papers = [("weighing", i, rest) for i, rest in enumerate(rests) if any(rest)]
    papers += [("odds", i, j, odd) for (i, j), odd in zip(sorted(two_rounds(source)), odd_ones) if any(odd)]
    return papers[0] if papers else None


class Lifts(unittest.TestCase):
    """Point 29."""

    def held(self, build, source, images):
        table, way = build.table(), way_of(source, build.upper, images)
        told = lift(table, way)
        paper = wanted_paper(pulled_kind(build, source, images), source)
        self.assertEqual([type(told), len(told)], [tuple, 2])
        if paper is not None:
            self.assertEqual(told, ("none", paper))
            self.assertEqual(repr(told), repr(("none", paper)))
            return "none"
        self.assertEqual(told[0], "lift")
        self.assertIs(type(told[1]), dict)
        self.is_lift(build, source, images, told[1])
        kept = dict(told[1])
        told[1].clear()
        self.assertEqual(lift(table, way), ("lift", kept))
        self.assertEqual(table.carries(), build.carries)
        return "lift"

    def is_lift(self, build, source, images, led):
        self.assertEqual(sorted(led), all_tuples(source))
        lower, upper = build.lower, build.upper
        for x in led:
            self.assertIs(type(led[x]), tuple)
            self.assertIn(led[x][0], all_tuples(lower))
            self.assertEqual(led[x][1], led_by(upper, images, x))
            self.assertEqual(len(led[x]), 2)
        for x in led:
            for y in led:
                (a, p), (b, q) = led[x], led[y]
                whole = add_places(lower, add_places(lower, a, b), build.carries[(p, q)])
                self.assertEqual(led[add_places(source, x, y)], (whole, add_places(upper, p, q)))

    def test_lifts_and_papers(self):
        words = []
        for seed, (lower, upper) in enumerate(SHAPES):
            for source in SOURCES:
                words.append(self.held(any_build(lower, upper, seed), source, any_images(source, upper, seed)))
        self.assertGreater(min(words.count("lift"), words.count("none")), 20)

    def test_the_map_that_leads_each_to_itself(self):
        words = []
        for seed, (lower, upper) in enumerate(SHAPES):
            heads = [head(upper, i) for i in range(len(upper))]
            words.append(self.held(any_build(lower, upper, seed), upper, heads))
            nought = (0,) * len(lower)
            empty = Build(lower, upper, [nought] * len(upper), {key: nought for key in two_rounds(upper)},
                          any_labels(Model(lower), upper, seed))
            self.assertEqual(self.held(empty, upper, heads), "lift")
        self.assertEqual(set(words), {"lift", "none"})

    def test_all_maps_to_the_nought(self):
        for seed, (lower, upper) in enumerate(SHAPES):
            for source in SOURCES:
                images = [(0,) * len(upper)] * len(source)
                self.assertEqual(self.held(any_build(lower, upper, seed), source, images), "lift")

    def test_any_carry_of_noughts(self):
        for lower, upper, source in (((4,), (2,), (4,)), ((2, 2), (2, 2), (2,)), ((8,), (4,), (2, 2)), ((9,), (3, 3), (3,))):
            words = set()
            for a in all_tuples(lower):
                build = any_build(lower, upper, 5)
                build.carries = {key: add_places(lower, carried, a) for key, carried in build.carries.items()}
                for row in product(*images_for(source, upper)):
                    words.add(self.held(build, source, list(row)))
            self.assertIn("lift", words)

    def test_just_where_there_is_one(self):
        """All ways to lift the heads are gone through."""
        words = []
        for lower, upper in (((2,), (2,)), ((4,), (2,)), ((2,), (2, 2)), ((3,), (3,)), ((2, 2), (2,)), ((2,), (4,)), ((4,), (2, 2)),
                             ((3,), (3, 3)), ((), (2, 2)), ((2,), ())):
            for source in ((), (2,), (4,), (2, 2), (3,), (3, 3), (2, 2, 2)):
                for seed in range(2):
                    build, images = any_build(lower, upper, seed), any_images(source, upper, seed + 3)
                    found = self.any_lift(build, source, images)
                    told = lift(build.table(), way_of(source, upper, images))
                    self.assertEqual(told[0], "lift" if found else "none")
                    words.append(told[0])
        self.assertGreater(min(words.count("lift"), words.count("none")), 10)

    def any_lift(self, build, source, images):
        tower = Model(build.upper, Model(build.lower), build.carries)
        for row in product(all_tuples(build.lower), repeat=len(source)):
            heads = list(zip(row, images))
            led = {x: tower.total([p for p, k in zip(heads, x) for _ in range(k)]) for x in all_tuples(source)}
            if all(led[add_places(source, x, y)] == tower.sums[(led[x], led[y])] for x in led for y in led):
                return True
        return False

    def test_the_first_rest_then_the_least_odds(self):
        lower, upper = (2, 2), (2, 2, 2)
        nought, zero = (0, 0), {(0, 1): (0, 0), (0, 2): (0, 0), (1, 2): (0, 0)}
        far = {(0, 1): (1, 0), (0, 2): (0, 1), (1, 2): (1, 1)}
        heads = [head(upper, i) for i in range(3)]
        labels = {x: all_tuples(lower)[sum(x)] for x in all_tuples(upper)}
        for columns, odd_ones, paper in (
            ([nought, (0, 1), (1, 0)], far, ("weighing", 1, (0, 1))), ([nought, nought, (1, 0)], far, ("weighing", 2, (1, 0))),
            ([(1, 1), (0, 1), (1, 0)], zero, ("weighing", 0, (1, 1))), ([nought] * 3, far, ("odds", 0, 1, (1, 0))),
            ([nought] * 3, {**far, (0, 1): nought}, ("odds", 0, 2, (0, 1))), ([nought] * 3, {**zero, (1, 2): (1, 1)}, ("odds", 1, 2, (1, 1))),
        ):
            build = Build(lower, upper, columns, odd_ones, labels)
            self.assertEqual(lift(build.table(), way_of(upper, upper, heads)), ("none", paper))
            swapped = way_of(upper, upper, heads[::-1])
            self.assertEqual(lift(build.table(), swapped),
                             ("none", wanted_paper(pulled_kind(build, upper, heads[::-1]), upper)))

    def test_the_round_of_the_source(self):
        build = Build((4,), (2,), [(1,)], {}, {(0,): (3,), (1,): (2,)})
        self.assertEqual(lift(build.table(), way_of((2,), (2,), [(1,)])), ("none", ("weighing", 0, (1,))))
        self.assertEqual(lift(build.table(), way_of((4,), (2,), [(1,)])), ("none", ("weighing", 0, (2,))))
        self.assertEqual(lift(build.table(), way_of((8,), (2,), [(1,)]))[0], "lift")
        self.assertEqual(lift(build.table(), way_of((2, 2), (2,), [(0,), (1,)])), ("none", ("weighing", 1, (1,))))


class Refused(unittest.TestCase):
    """Point 29: refusals, each ahead of the next one."""

    def broken(self, lower, upper):
        carries = any_carries(lower, upper, 3)
        return made(lower, upper, carries), min(walk_three(lower, upper, carries))

    def test_not_like(self):
        for lower, upper in (((4,), (2, 4)), ((2,), (4,)), ((2,), (2, 2))):
            for goal in ((4, 2), (2,), (8,), (2, 2, 2), (), (16,)):
                for source in ((2,), (), (10,), (144,)):
                    for table in (any_build(lower, upper, 1).table(), self.broken(lower, upper)[0]):
                        with self.assertRaises(NotLike):
                            lift(table, way_of(source, goal, any_images(source, goal, 1)))

    def test_no_upper_ahead_of_no_tower(self):
        for lower, upper in (((4,), (2, 4)), ((2,), (4,)), ((2,), (2, 2))):
            for source in ((10,), (2, 5), (144,), (2, 2, 2, 2)):
                for table in (any_build(lower, upper, 1).table(), self.broken(lower, upper)[0]):
                    with self.assertRaises(NoUpper):
                        lift(table, way_of(source, upper, any_images(source, upper, 1)))

    def test_no_tower(self):
        kept = 0
        for lower, upper in (((4,), (2, 4)), ((2,), (4,)), ((2,), (2, 2)), ((9,), (3, 3))):
            table, three = self.broken(lower, upper)
            for source in SOURCES:
                for images in ([(0,) * len(upper)] * len(source), any_images(source, upper, 1)):
                    way = way_of(source, upper, images)
                    kept += break_of_three(pulled(table, way)) is None
                    with self.assertRaises(NoTower) as caught:
                        lift(table, way)
                    self.assertEqual(caught.exception.three, three)
        self.assertGreater(kept, 10)


if __name__ == "__main__":
    unittest.main()
