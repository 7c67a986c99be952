"""Points 1, 2, 3, 13: the whole program, gone through for a few pairs of small groups."""

import unittest
from itertools import product

from carrytower.desk import Desk
from carrytower.errors import CarryError, NoTower, Uneven
from carrytower.groups import Rounds
from carrytower.kinds import how_many, kind_sum, kinds_of, table_of_kind
from carrytower.lifts import lift
from carrytower.maps import Map, pulled, pushed
from carrytower.plainest import plainest
from carrytower.relabels import changed, levelled, renumbering, table_by
from carrytower.sameness import compared, shows
from carrytower.stacks import flat, floors
from carrytower.sums import about, both, often
from carrytower.tables import Table, alike, break_of_three, break_of_two
from carrytower.tabletexts import read_table, table_text
from carrytower.texts import element_text, rounds_text
from carrytower.towers import Tower
from carrytower.weighings import is_nought, kind_of, odds, rest_but_for, weighing
from helper import (
    Model, add_places, all_tuples, any_carries, any_images, any_labels, images_for, led_by, own_carries, walk_three, walk_two,
    walked_kind,
)

PAIRS = [
    ((), ()), ((3,), ()), ((), (2, 2)), ((2,), (2,)), ((4,), (2,)), ((2,), (4,)), ((3,), (3,)), ((2, 2), (2,)), ((2,), (2, 2)),
    ((4,), (2, 2)), ((6,), (2, 3)), ((2,), (2, 4)), ((3,), (3, 3)),
]


class Whole(unittest.TestCase):
    """Each sentence of point 3."""

    def each(self, most=27):
        """Each pair of groups, with the table of each of its kinds."""
        for lower, upper in PAIRS:
            below, above = Rounds(lower), Rounds(upper)
            kinds = kinds_of(below, above)
            self.assertEqual(len(kinds), how_many(below, above))
            yield lower, upper, [(kind, table_of_kind(below, above, kind)) for kind in kinds[:most]]

    def test_a_tower_just_where_the_rule_holds(self):
        made = 0
        for seed, (lower, upper) in enumerate(PAIRS):
            for carries in [any_carries(lower, upper, seed + k) for k in range(4)]:
                table, broken = Table(Rounds(lower), Rounds(upper), carries), walk_three(lower, upper, carries)
                self.assertEqual(break_of_three(table), min(broken) if broken else None)
                if not broken:
                    made += 1
                    self.assertEqual(Tower(table).members(), Model(upper, Model(lower), carries).members)
                    continue
                with self.assertRaises(NoTower) as caught:
                    Tower(table)
                self.assertEqual(caught.exception.three, min(broken))
        self.assertGreater(made, 4)

    def test_towers_and_plainest_tellings(self):
        for lower, upper, rows in self.each():
            for kind, table in rows:
                model, tower = Model(upper, Model(lower), table.carries()), Tower(table)
                for p, q in model.sums:
                    self.assertEqual(tower.added(p, q), model.sums[(p, q)])
                turned = walk_two(upper, table.carries())
                self.assertEqual(break_of_two(table), min(turned) if turned else None)
                self.assertIs(tower.is_even(), model.is_even())
                self.assertIs(tower.is_even(), not turned)
                if turned:
                    with self.assertRaises(Uneven) as caught:
                        plainest(tower)
                    self.assertEqual(caught.exception.two, min(turned))
                else:
                    self.plain(model, tower)

    def plain(self, model, group):
        rounds, there, back = plainest(group)
        self.assertTrue(all(n > 1 for n in rounds) and all(m % n == 0 for n, m in zip(rounds, rounds[1:])))
        self.assertEqual([sorted(there), sorted(back)], [model.members, all_tuples(rounds)])
        for p, q in model.sums:
            self.assertEqual(there[model.sums[(p, q)]], add_places(rounds, there[p], there[q]))
            self.assertEqual(back[there[p]], p)

    def test_groups_by_rounds_have_plainest_tellings(self):
        for lower, upper in PAIRS:
            for rounds in (lower, upper, lower + upper):
                self.plain(Model(rounds), Rounds(rounds))

    def test_the_same_just_where_a_relabeling_is(self):
        for lower, upper, rows in self.each(9):
            for (one, first), (other, second) in product(rows, rows):
                told = compared(first, second)
                self.assertEqual(told[0], "same" if one == other else "apart")
                self.assertIs(shows(first, second, told), True)
                if one != other:
                    self.unlike(first, second, told[1])

    def unlike(self, first, second, paper):
        """The rests or odds that are told are what both tables have, and are unlike."""
        word, *places, one, other = paper
        self.assertNotEqual(one, other)
        for table, part in ((first, one), (second, other)):
            if word == "weighing":
                i, = places
                self.assertEqual(rest_but_for(table.lower, table.upper.rounds[i], weighing(table, i)), part)
            else:
                self.assertEqual(odds(table, *places), part)

    def test_relabeled_tables_make_the_same_tower(self):
        for seed, (lower, upper, rows) in enumerate(self.each(9)):
            for kind, table in rows:
                h = any_labels(Model(lower), upper, seed)
                other = changed(table, h)
                self.assertEqual(kind_of(other), kind)
                word, way = compared(table, other)
                self.assertEqual(word, "same")
                self.assertTrue(alike(changed(table, way), other))
                one, model = Model(upper, Model(lower), table.carries()), Model(upper, Model(lower), other.carries())
                led = renumbering(table, way)
                for p, q in one.sums:
                    self.assertEqual(led[one.sums[(p, q)]], model.sums[(led[p], led[q])])
                self.assertIs(shows(table, other, ("same", h)), True)
                self.assertTrue(alike(both(table, table_by(table.lower, table.upper, h)), other))

    def test_kinds(self):
        for seed, (lower, upper, rows) in enumerate(self.each(9)):
            below, above = Rounds(lower), Rounds(upper)
            for kind, table in rows:
                self.assertEqual(kind_of(table), kind)
                self.assertEqual(walked_kind(lower, upper, table.carries()), kind)
                self.assertEqual(kind_of(levelled(table)[0]), kind)
            for (one, first), (other, second) in product(rows, rows):
                self.assertEqual(kind_of(both(first, second)), kind_sum(below, above, one, other))
            for kind, table in rows:
                self.assertIs(is_nought(kind_of(both(table, often(table, -1)))), True)
                self.assertEqual(kind_of(about(about(table))), kind)

    def test_maps_and_kinds(self):
        for seed, (lower, upper, rows) in enumerate(self.each(9)):
            h = any_labels(Model(lower), upper, seed)
            for source in ((), (2,), (4,), (2, 2), (3, 3)):
                way = Map(Rounds(source), Rounds(upper), any_images(source, upper, seed))
                on = Map(Rounds(lower), Rounds(source), any_images(lower, source, seed))
                for along, over in ((lambda table: pulled(table, way), (lower, source)), (lambda table: pushed(table, on), (source, upper))):
                    below, above = Rounds(over[0]), Rounds(over[1])
                    led = {kind: kind_of(along(table)) for kind, table in rows}
                    for kind, table in rows:
                        self.assertEqual(kind_of(along(changed(table, h))), led[kind])
                    for (one, first), (other, second) in product(rows[:4], rows[:4]):
                        whole = kind_of(along(both(first, second)))
                        self.assertEqual(whole, kind_sum(below, above, led[one], led[other]))

    def test_lifts_just_where_the_pulled_kind_is_nought(self):
        words = []
        for seed, (lower, upper, rows) in enumerate(self.each(6)):
            for kind, table in rows:
                table = changed(table, any_labels(Model(lower), upper, seed))
                tower = Tower(table)
                for source in ((), (2,), (4,), (2, 2), (3,)):
                    for images in [list(row) for row in product(*images_for(source, upper))][:6]:
                        way = Map(Rounds(source), Rounds(upper), images)
                        word, led = lift(table, way)
                        words.append(word)
                        self.assertEqual(word == "lift", is_nought(kind_of(pulled(table, way))))
                        if word == "lift":
                            self.assertEqual([led[x][1] for x in all_tuples(source)],
                                             [led_by(upper, images, x) for x in all_tuples(source)])
                            for x, y in product(all_tuples(source), repeat=2):
                                self.assertEqual(led[add_places(source, x, y)], tower.added(led[x], led[y]))
        self.assertEqual(set(words), {"lift", "none"})

    def test_towers_on_towers(self):
        for seed, (lower, upper, rows) in enumerate(self.each(6)):
            for kind, table in rows:
                tower = Tower(table)
                if not tower.is_even() or tower.size() > 16:
                    continue
                model = Model(upper, Model(lower), table.carries())
                carries = own_carries(model, (2,), any_labels(model, (2,), seed))
                high = Table(tower, Rounds((2,)), carries)
                self.assertEqual([floors(tower), floors(Tower(high))], [1, 2])
                low, there = flat(high)
                self.assertEqual(low.lower.rounds, plainest(tower)[0])
                self.assertEqual(low.carries(), {key: there[carries[key]] for key in carries})
                # Labels alone were carried, so the flat table is the same as one that carries nothing.
                self.assertIs(is_nought(kind_of(low)), True)

    def test_the_desk_tells_the_same(self):
        for lower, upper, rows in self.each(8):
            desk = Desk()
            for kind, table in rows[:8]:
                words = [element_text(a) for a in kind[0]]
                desk.told(" ".join(["plain", "a", rounds_text(table.lower), rounds_text(table.upper)] + words))
                for at, a in enumerate(kind[1]):
                    self.assertEqual(len(upper), 2)
                    desk.told(f"pair b {rounds_text(table.lower)} {rounds_text(table.upper)} 0 1 {element_text(a)}")
                    desk.told("sum a a b")
                self.assertEqual(desk.told("kind a"), " ".join(["kind"] + [element_text(a) for a in kind[0] + kind[1]]))
                self.assertEqual(desk.told(f"kinds {rounds_text(table.lower)} {rounds_text(table.upper)}"),
                                 str(how_many(table.lower, table.upper)))
                if break_of_two(table) is None:
                    self.assertEqual(desk.told("rounds a"), rounds_text(Rounds(plainest(Tower(table))[0])))


class Stays(unittest.TestCase):
    """Point 2: what is made is never changed, whatever is asked of it."""

    def test_fields_and_carries_stay(self):
        lower, upper = Rounds((4,)), Rounds((2, 2))
        tables = [table_of_kind(lower, upper, kind) for kind in kinds_of(lower, upper)[:4]]
        tables.append(Table(lower, upper, any_carries((4,), (2, 2), 1)))
        way = Map(Rounds((2, 4)), upper, [(1, 0), (1, 1)])
        kept = [table.carries() for table in tables]
        h = any_labels(Model((4,)), (2, 2), 1)
        for table in tables:
            for ask in (
                lambda: Tower(table).members().clear(), lambda: Tower(table).over((0, 0)).clear(), lambda: table.carries().clear(),
                lambda: plainest(Tower(table))[1].clear(), lambda: renumbering(table, h).clear(), lambda: levelled(table)[1].clear(),
                lambda: compared(table, tables[0])[1].clear(), lambda: shows(table, tables[0], ("same", h)), lambda: often(table, -9),
                lambda: lift(table, way)[1].clear(), lambda: flat(table)[1].clear(), lambda: table_text(table).clear(),
                lambda: pulled(table, way).carries().clear(), lambda: kinds_of(lower, upper).clear(), lambda: upper.heads().clear(),
                lambda: both(table, tables[0]).carries().clear(), lambda: about(table).carries().clear(), lambda: kind_of(table),
                lambda: alike(read_table(table_text(table)), table), lambda: upper.members().clear(),
            ):
                try:
                    ask()
                except (CarryError, AttributeError):
                    # A paper in the place of a dict can't be cleared.
                    pass
                self.assertIs(table.lower, lower)
                self.assertIs(table.upper, upper)
                self.assertEqual([one.carries() for one in tables], kept)
        self.assertEqual([lower.rounds, upper.rounds, way.source.rounds, way.goal.rounds], [(4,), (2, 2), (2, 4), (2, 2)])
        self.assertIs(way.goal, upper)
        self.assertEqual(way.led((1, 3)), (0, 1))
        self.assertEqual(h, any_labels(Model((4,)), (2, 2), 1))


if __name__ == "__main__":
    unittest.main()
