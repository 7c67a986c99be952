"""Points 2, 3, 16, 21, 22: two tables the same or apart, and what shows it."""

import unittest
from random import Random

from carrytower.errors import NoTower, NotLike
from carrytower.groups import Rounds
from carrytower.relabels import changed, renumbering
from carrytower.sameness import compared, shows
from carrytower.tables import Table
from helper import (
    SHAPES, Build, Model, add_places, all_tuples, any_build, any_carries, any_labels, odd_things, own_carries, rebuilt,
    two_rounds, walk_three,
)


def made(lower, upper, carries):
    return Table(Rounds(lower), Rounds(upper), dict(carries))


def bare(lower, upper, columns, odd_ones):
    return Build(lower, upper, columns, odd_ones, {x: (0,) * len(lower) for x in all_tuples(upper)})


def all_papers(one, other):
    """Every right paper of two builds, by their parts alone."""
    upper = one.upper
    rests, others = one.kind()[0], other.kind()[0]
    papers = [("weighing", i, rests[i], others[i]) for i in range(len(upper)) if rests[i] != others[i]]
    return papers + [("odds", i, j, one.odd_ones[(i, j)], other.odd_ones[(i, j)])
                     for i, j in sorted(two_rounds(upper)) if one.odd_ones[(i, j)] != other.odd_ones[(i, j)]]


def builds():
    """Two builds each, of any kinds."""
    return [(any_build(lower, upper, seed), any_build(lower, upper, seed + 50)) for lower, upper in SHAPES for seed in range(4)]


class Same(unittest.TestCase):
    """Point 21, and point 16 along what it tells."""

    def held(self, one, other):
        lower, upper, model = one.lower, one.upper, Model(one.lower)
        first, second = one.table(), other.table()
        told = compared(first, second)
        self.assertEqual([type(told), len(told), told[0]], [tuple, 2, "same"])
        h = told[1]
        self.assertIs(type(h), dict)
        self.assertEqual(sorted(h), all_tuples(upper))
        own = own_carries(model, upper, h)
        for key in own:
            self.assertEqual(add_places(lower, one.carries[key], own[key]), other.carries[key])
        self.assertIs(shows(first, second, told), True)
        kept = dict(h)
        for x in h:
            h[x] = None
        h.clear()
        self.assertEqual(compared(first, second), ("same", kept))
        self.assertEqual([first.carries(), second.carries()], [one.carries, other.carries])

    def test_the_same(self):
        for lower, upper in SHAPES:
            for seed in range(3):
                one = any_build(lower, upper, seed)
                self.held(one, rebuilt(one, seed + 1))

    def test_a_table_with_itself(self):
        for lower, upper in SHAPES:
            one = any_build(lower, upper, 7)
            self.held(one, one)
            table = one.table()
            self.assertIs(shows(table, table, compared(table, table)), True)

    def test_carries_of_noughts(self):
        for lower, upper in (((4,), (2,)), ((2, 2), (2, 2)), ((3,), ()), ((16,), (2, 4)), ((9,), (3, 3))):
            below, one = all_tuples(lower), any_build(lower, upper, 1)
            for a in below:
                other = rebuilt(one, 2)
                other.carries = {key: add_places(lower, carried, a) for key, carried in other.carries.items()}
                self.held(one, other)
                self.held(other, one)

    def test_renumbering_along_it(self):
        for lower, upper in SHAPES:
            one = any_build(lower, upper, 3)
            other = rebuilt(one, 4)
            if len(all_tuples(lower)) * len(all_tuples(upper)) > 72:
                continue
            h = compared(one.table(), other.table())[1]
            led = renumbering(one.table(), h)
            here, there = Model(upper, Model(lower), one.carries), Model(upper, Model(lower), other.carries)
            self.assertEqual(sorted(led), here.members)
            self.assertEqual(sorted(led.values()), there.members)
            for p, q in here.sums:
                self.assertEqual(led[here.sums[(p, q)]], there.sums[(led[p], led[q])])


class Apart(unittest.TestCase):
    """Point 21, of tables that are not the same."""

    def test_any_two(self):
        words = []
        for one, other in builds():
            papers = all_papers(one, other)
            told = compared(one.table(), other.table())
            words.append(told[0] if not papers else papers[0][0])
            if papers:
                self.assertEqual(told, ("apart", papers[0]))
                self.assertEqual([type(told), type(told[1])], [tuple, tuple])
                self.assertEqual(repr(told), repr(("apart", papers[0])))
                turned = papers[0][:-2] + (papers[0][-1], papers[0][-2])
                self.assertEqual(compared(other.table(), one.table()), ("apart", turned))
            else:
                self.assertEqual(told[0], "same")
        self.assertEqual(set(words), {"same", "weighing", "odds"})

    def test_each_place_alone(self):
        for lower, upper in SHAPES:
            one = any_build(lower, upper, 9)
            for other in self.changed_at_one_place(one):
                papers = all_papers(one, other)
                self.assertEqual(len(papers), 1)
                self.assertEqual(compared(one.table(), other.table()), ("apart", papers[0]))

    def changed_at_one_place(self, one):
        """Builds that are unlike in one rest, or in one odds."""
        for at, n in enumerate(one.upper):
            for place in range(len(one.lower)):
                step = tuple(1 if k == place else 0 for k in range(len(one.lower)))
                column = add_places(one.lower, one.columns[at], step)
                other = Build(one.lower, one.upper, one.columns[:at] + [column] + one.columns[at + 1:], one.odd_ones,
                              any_labels(Model(one.lower), one.upper, at))
                if other.kind() != one.kind():
                    yield other
        for key in one.odd_ones:
            for a in all_tuples(one.lower):
                both = [tuple(n * k % m for k, m in zip(a, one.lower)) for n in (one.upper[key[0]], one.upper[key[1]])]
                if a != one.odd_ones[key] and not any(k for x in both for k in x):
                    yield Build(one.lower, one.upper, one.columns, {**one.odd_ones, key: a},
                                any_labels(Model(one.lower), one.upper, 4))

    def test_the_first_of_several(self):
        lower, upper = (2, 2), (2, 2, 2)
        nought, zero = (0, 0), {(0, 1): (0, 0), (0, 2): (0, 0), (1, 2): (0, 0)}
        one = bare(lower, upper, [nought] * 3, zero)
        far = {(0, 1): (1, 0), (0, 2): (0, 1), (1, 2): (1, 1)}
        for columns, odd_ones, paper in (
            ([nought, (0, 1), (1, 0)], far, ("weighing", 1, nought, (0, 1))),
            ([nought, nought, (1, 0)], far, ("weighing", 2, nought, (1, 0))),
            ([(1, 1), (0, 1), (1, 0)], zero, ("weighing", 0, nought, (1, 1))),
            ([nought] * 3, far, ("odds", 0, 1, nought, (1, 0))),
            ([nought] * 3, {**far, (0, 1): nought}, ("odds", 0, 2, nought, (0, 1))),
            ([nought] * 3, {**zero, (1, 2): (1, 1)}, ("odds", 1, 2, nought, (1, 1))),
        ):
            other = bare(lower, upper, columns, odd_ones)
            self.assertEqual(compared(one.table(), other.table()), ("apart", paper))

    def test_unlike_weighings_with_one_rest(self):
        one = bare((6,), (4,), [(1,)], {})
        self.assertEqual(compared(one.table(), bare((6,), (4,), [(3,)], {}).table())[0], "same")
        told = compared(one.table(), bare((6,), (4,), [(4,)], {}).table())
        self.assertEqual(told, ("apart", ("weighing", 0, (1,), (0,))))

    def test_no_relabeling_where_they_are_apart(self):
        for lower, upper in (((2,), (2,)), ((2,), (2, 2)), ((4,), (2,)), ((3,), (3,)), ((2, 2), (2,)), ((2,), (4,))):
            model, members = Model(lower), all_tuples(upper)
            labelings = [{}]
            for x in members:
                labelings = [{**h, x: a} for h in labelings for a in model.members]
            owns = [own_carries(model, upper, h) for h in labelings]
            for seed in range(8):
                one, other = any_build(lower, upper, seed), any_build(lower, upper, seed + 20)
                reached = any(
                    all(add_places(lower, one.carries[key], own[key]) == other.carries[key] for key in own) for own in owns)
                self.assertEqual(compared(one.table(), other.table())[0], "same" if reached else "apart")


class Refused(unittest.TestCase):
    """Points 21, 22: refusals, whatever the thing is."""

    def things(self):
        return odd_things() + [("same", {}), ("apart", ()), ("same", None), ("apart", ("weighing", 0, (0,), (1,)))]

    def asks(self, one, other):
        return [lambda: compared(one, other)] + [lambda thing=thing: shows(one, other, thing) for thing in self.things()]

    def broken(self, lower, upper, seed):
        carries = any_carries(lower, upper, seed)
        return made(lower, upper, carries), min(walk_three(lower, upper, carries))

    def test_not_like(self):
        shapes = [((4,), (2, 2)), ((2, 2), (2, 2)), ((4,), (4,)), ((4,), (2, 2, 2)), ((), (2, 2)), ((4,), ()), ((8,), (2, 2)),
                  ((2, 4), (2, 4)), ((4, 2), (2, 4)), ((2, 4), (4, 2))]
        for at, first in enumerate(shapes):
            for second in shapes[:at] + shapes[at + 1:]:
                for one, other in (
                    (any_build(*first, 1).table(), any_build(*second, 1).table()),
                    (made(*first, any_carries(*first, 1)), made(*second, any_carries(*second, 1))),
                    (any_build(*first, 1).table(), made(*second, any_carries(*second, 1))),
                    (made(*first, any_carries(*first, 1)), any_build(*second, 1).table()),
                ):
                    for ask in self.asks(one, other)[:1] + self.asks(one, other)[-4:]:
                        with self.assertRaises(NotLike):
                            ask()

    def test_no_tower(self):
        for lower, upper in (((4,), (2, 2)), ((3,), (3,)), ((2, 2), (2, 2, 2))):
            good = any_build(lower, upper, 1).table()
            threes = set()
            for seed in range(6):
                one, three = self.broken(lower, upper, seed)
                other, later = self.broken(lower, upper, seed + 10)
                threes.update([three, later])
                for first, second, wanted in ((one, good, three), (good, one, three), (one, other, three), (one, one, three)):
                    for ask in self.asks(first, second):
                        with self.assertRaises(NoTower) as caught:
                            ask()
                        self.assertEqual(caught.exception.three, wanted)

    def test_the_first_break_ahead_of_the_second(self):
        lower, upper = (4,), (2, 2)
        base = any_build(lower, upper, 1).carries
        early, late = dict(base), dict(base)
        early[((0, 0), (0, 1))] = add_places(lower, early[((0, 0), (0, 1))], (1,))
        late[((1, 1), (1, 1))] = add_places(lower, late[((1, 1), (1, 1))], (1,))
        breaks = [min(walk_three(lower, upper, carries)) for carries in (early, late)]
        self.assertNotEqual(*breaks)
        for one, other, wanted in ((early, late, breaks[0]), (late, early, breaks[1])):
            for ask in self.asks(made(lower, upper, one), made(lower, upper, other)):
                with self.assertRaises(NoTower) as caught:
                    ask()
                self.assertEqual(caught.exception.three, wanted)


class Shows(unittest.TestCase):
    """Point 22."""

    def all_false(self, one, other, things):
        for thing in things:
            self.assertIs(shows(one, other, thing), False, repr(type(thing)))

    def test_all_that_compared_tells(self):
        for one, other in builds():
            for first, second in ((one, other), (other, one), (one, rebuilt(one, 8))):
                told = compared(first.table(), second.table())
                self.assertIs(shows(first.table(), second.table(), told), True)

    def test_every_right_paper(self):
        several = 0
        for one, other in builds():
            papers = all_papers(one, other)
            several += len(papers) > 1
            for paper in papers:
                self.assertIs(shows(one.table(), other.table(), ("apart", paper)), True)
        self.assertGreater(several, 10)

    def test_every_right_relabeling(self):
        for lower, upper in (((2,), (2,)), ((2,), (2, 2)), ((4,), (2,)), ((3,), (3,)), ((2, 2), (2,)), ((), (2,)), ((3,), ())):
            model = Model(lower)
            one = any_build(lower, upper, 5)
            first, other = one.table(), rebuilt(one, 6)
            second = other.table()
            labelings = [{}]
            for x in all_tuples(upper):
                labelings = [{**h, x: a} for h in labelings for a in model.members]
            right = 0
            for h in labelings:
                own = own_carries(model, upper, h)
                wanted = all(add_places(lower, one.carries[key], own[key]) == other.carries[key] for key in own)
                right += wanted
                self.assertIs(shows(first, second, ("same", h)), wanted)
            self.assertGreater(right, 0)

    def test_keys_beside_do_no_harm(self):
        for lower, upper in (((4,), (2, 2)), ((2,), (3,)), ((3,), ())):
            one = any_build(lower, upper, 2)
            first, second = one.table(), rebuilt(one, 3).table()
            h = compared(first, second)[1]
            wide = {"x": 1, None: None, 5: [], (9, 9, 9, 9): (0,), **h, b"": {}, ((0,),): 0}
            handed = dict(wide)
            self.assertIs(shows(first, second, ("same", handed)), True)
            self.assertEqual(handed, wide)

    def test_wrong_relabelings(self):
        for lower, upper in (((4,), (2, 2)), ((2, 2), (3,)), ((9,), (3, 3)), ((3,), ())):
            one = any_build(lower, upper, 2)
            first, second = one.table(), rebuilt(one, 3).table()
            h = compared(first, second)[1]
            wrong = []
            for x in h:
                wrong.append({y: h[y] for y in h if y != x})
                wrong += [{**h, x: thing} for thing in odd_things() + [list(h[x]), h[x] + (0,), (17,), h[x][1:] + (True,)]]
            self.all_false(first, second, [("same", thing) for thing in wrong + [{}, list(h), list(h.items()), tuple(h)]])
            self.all_false(first, second, [("same", thing) for thing in odd_things()])
            self.all_false(first, second, [["same", h], ("same",), ("same", h, h), ("same", h, None), (h, "same"), h,
                                           ("Same", h), ("apart", h), (b"same", h), ("", h), (None, h), ("same ", h),
                                           "same", (("same",), h), (["same"], h), (1, h), (True, h), ((), h)])

    def test_a_label_changed(self):
        for lower, upper in (((4,), (2, 2)), ((2, 2), (3,)), ((9,), (3, 3)), ((5,), (2,))):
            one = any_build(lower, upper, 2)
            other = rebuilt(one, 3)
            h = compared(one.table(), other.table())[1]
            for x in h:
                for a in all_tuples(lower):
                    own = own_carries(Model(lower), upper, {**h, x: a})
                    wanted = all(add_places(lower, one.carries[key], own[key]) == other.carries[key] for key in own)
                    self.assertIs(shows(one.table(), other.table(), ("same", {**h, x: a})), wanted)

    def test_a_truth_for_a_label_number(self):
        one = bare((2,), (2,), [(1,)], {})
        table = one.table()
        self.assertIs(shows(table, table, ("same", {(0,): (0,), (1,): (0,)})), True)
        self.all_false(table, table, [("same", {(0,): (0,), (1,): (thing,)}) for thing in (False, True, None, "0", 2, -2)])
        self.all_false(table, table, [("same", {(0,): (thing,), (1,): (0,)}) for thing in (False, True, None, "0", 2, -2)])

    def test_alike_or_not_as_told(self):
        for one, other in builds():
            first, second = one.table(), other.table()
            papers = all_papers(one, other)
            h = any_labels(Model(one.lower), one.upper, 1)
            if papers:
                same_as = changed(first, h)
                self.all_false(first, second, [("same", h), ("same", compared(first, same_as)[1])])
            else:
                rests, odd_ones = one.kind()
                wrong = [("weighing", i, rest, rest) for i, rest in enumerate(rests)]
                wrong += [("odds", i, j, odd_ones[0], odd_ones[0]) for i, j in two_rounds(one.upper)]
                self.all_false(first, second, [("apart", paper) for paper in wrong])

    def test_like_places_of_tables_that_are_apart(self):
        lower, upper = (4,), (4, 2)
        one = bare(lower, upper, [(1,), (1,)], {(0, 1): (0,)})
        other = bare(lower, upper, [(3,), (1,)], {(0, 1): (0,)})
        first, second = one.table(), other.table()
        self.assertIs(shows(first, second, ("apart", ("weighing", 0, (1,), (3,)))), True)
        self.all_false(first, second, [("apart", paper) for paper in (
            ("weighing", 1, (1,), (1,)), ("odds", 0, 1, (0,), (0,)), ("weighing", 1, (1,), (3,)), ("weighing", 1, (1,), (0,)),
            ("odds", 0, 1, (1,), (3,)), ("odds", 0, 1, (0,), (2,)), ("weighing", 0, (3,), (1,)), ("weighing", 0, (1,), (1,)),
            ("weighing", 0, (3,), (3,)), ("weighing", 0, (1,), (2,)), ("weighing", 0, (0,), (3,)), ("weighing", 0, (5,), (3,)),
            ("weighing", 0, (1,), (-1,)), ("weighing", 2, (1,), (3,)), ("weighing", -2, (1,), (3,)),
            ("weighing", -1, (1,), (3,)), ("weighing", 10 ** 59, (1,), (3,)), ("weighing", False, (1,), (3,)),
            ("weighing", None, (1,), (3,)), ("weighing", "0", (1,), (3,)), ("weighing", (0,), (1,), (3,)),
            ("weighing", 0, (True,), (3,)), ("weighing", 0, [1], (3,)), ("weighing", 0, (1,), [3]), ["weighing", 0, (1,), (3,)],
            ("weighing", 0, (1,)), ("weighing", 0), ("weighing",), (), ("weighing", 0, (1,), (3,), (3,)),
            ("weighing", 0, (1,), (3,), None), ("weighing", 0, 0, (1,), (3,)), ("odds", 0, (1,), (3,)), (0, (1,), (3,)),
            ("Weighing", 0, (1,), (3,)), (None, 0, (1,), (3,)), (b"weighing", 0, (1,), (3,)), ("", 0, (1,), (3,)),
            ("weighing", 0, 1, 3), ("weighing", 0, "1", "3"), ("weighing", 0, (1, 0), (3, 0)), ("weighing", 0, (), ()),
            ("weighing", 0, None, None), "weighing", "weighing 0", {"weighing": 0}, None, 0, True,
            (("weighing",), 0, (1,), (3,)), (["weighing"], 0, (1,), (3,)),
        )])
        paper = ("weighing", 0, (1,), (3,))
        self.all_false(first, second, [
            ["apart", paper], ("apart",), ("apart", paper, paper), ("apart", list(paper)), ("same", paper), ("Apart", paper),
            ("apart", {0: paper}), (paper,), paper, (paper, "apart"), ("apart",) + paper, (None, paper), (b"apart", paper),
            ("apart", "weighing"), ("apart", (paper,)), {"apart": paper}, "apart", ("", paper), (0, paper), (("apart",), paper),
        ])

    def test_weighings_in_the_place_of_rests(self):
        one, other = bare((6,), (4,), [(5,)], {}), bare((6,), (4,), [(2,)], {})
        first, second = one.table(), other.table()
        self.assertIs(shows(first, second, ("apart", ("weighing", 0, (1,), (0,)))), True)
        self.all_false(first, second, [("apart", ("weighing", 0, a, b)) for a in all_tuples((6,)) for b in all_tuples((6,))
                                       if (a, b) != ((1,), (0,))])

    def test_wrong_odds(self):
        lower, upper = (3,), (3, 3)
        one, other = bare(lower, upper, [(1,), (2,)], {(0, 1): (1,)}), bare(lower, upper, [(1,), (2,)], {(0, 1): (2,)})
        first, second = one.table(), other.table()
        self.assertIs(shows(first, second, ("apart", ("odds", 0, 1, (1,), (2,)))), True)
        self.all_false(first, second, [("apart", paper) for paper in (
            ("odds", 1, 0, (1,), (2,)), ("odds", 1, 0, (2,), (1,)), ("odds", 0, 1, (2,), (1,)), ("odds", 0, 0, (1,), (2,)),
            ("odds", 1, 1, (1,), (2,)), ("odds", 0, 0, (0,), (0,)), ("odds", 0, 2, (1,), (2,)), ("odds", -1, 1, (1,), (2,)),
            ("odds", -2, -1, (1,), (2,)), ("odds", False, 1, (1,), (2,)), ("odds", 0, True, (1,), (2,)),
            ("odds", False, True, (1,), (2,)), ("odds", 0, 1, (True,), (2,)), ("odds", 0, 1, [1], (2,)),
            ("odds", 0, 1, (1,), [2]), ["odds", 0, 1, (1,), (2,)], ("odds", 0, 1, (1,)), ("odds", 0, 1), ("odds", 0, (1,), (2,)),
            ("odds", (0, 1), (1,), (2,)), ("odds", 0, 1, (1,), (2,), 0), ("odds", 0, 1, 0, (1,), (2,)),
            ("weighing", 0, (1,), (2,)), ("weighing", 0, 1, (1,), (2,)), ("weighing", 1, (1,), (2,)), ("odds", 0, 10 ** 59, (1,), (2,)),
            ("odds", "0", "1", (1,), (2,)), ("odds", None, 1, (1,), (2,)), ("odds", 0, 1, (4,), (2,)), ("odds", 0, 1, (1,), (-1,)),
            ("odds", 0, 1, 1, 2), ("odds", 0, 1, None, (2,)), ("odds", 0, 1, (1,), None), ("odd", 0, 1, (1,), (2,)),
            (None, 0, 1, (1,), (2,)), ("odds", 0, 1, (1, 0), (2, 0)), ("odds", 0, 1, (0,), (1,)), ("odds", 0, 1, (1,), (1,)),
        )])

    def test_every_paper_there_could_be(self):
        chance = Random(1)
        for lower, upper in (((2,), (2, 2, 2)), ((4,), (2, 4)), ((2, 2), (2, 2)), ((3,), (3, 3)), ((6,), (6,))):
            for seed in range(6):
                one, other = any_build(lower, upper, seed), any_build(lower, upper, seed + 30)
                first, second, right = one.table(), other.table(), all_papers(one, other)
                places = [("weighing", i) for i in range(-1, len(upper) + 1)]
                places += [("odds", i, j) for i in range(len(upper) + 1) for j in range(len(upper) + 1)]
                papers = [place + (a, b) for place in places for a in all_tuples(lower) for b in all_tuples(lower)]
                for paper in right + chance.sample(papers, 25):
                    self.assertIs(shows(first, second, ("apart", paper)), paper in right)

    def test_any_thing(self):
        pairs = [(any_build(lower, upper, 1), any_build(lower, upper, 2)) for lower, upper in SHAPES[:6] + [((4,), (2, 4))]]
        for one, other in pairs + [(one, one) for one, other in pairs]:
            first, second = one.table(), other.table()
            self.all_false(first, second, odd_things())
            for word in ("apart", "same"):
                self.all_false(first, second, [(word, thing) for thing in odd_things()])
            self.all_false(first, second, [(thing, {}) for thing in odd_things()])

    def test_any_thing_within_a_right_paper(self):
        one = bare((2, 4), (2, 2), [(0, 0), (1, 1)], {(0, 1): (1, 2)})
        other = bare((2, 4), (2, 2), [(1, 1), (1, 1)], {(0, 1): (0, 2)})
        first, second = one.table(), other.table()
        for paper in (("weighing", 0, (0, 0), (1, 1)), ("odds", 0, 1, (1, 2), (0, 2))):
            self.assertIs(shows(first, second, ("apart", paper)), True)
            for at in range(len(paper)):
                wrong = [thing for thing in odd_things() if type(thing) is not int or thing != paper[at]]
                self.all_false(first, second, [("apart", paper[:at] + (thing,) + paper[at + 1:]) for thing in wrong])
                self.all_false(first, second, [("apart", paper[:at] + paper[at + 1:])])
                self.all_false(first, second, [("apart", paper[:at] + (thing,) + paper[at:]) for thing in (0, None, (0, 0))])

    def test_what_is_handed_in_stays(self):
        one = any_build((4,), (2, 2), 3)
        other = rebuilt(one, 4)
        first, second = one.table(), other.table()
        told = compared(first, second)
        kept = dict(told[1])
        shows(first, second, told)
        self.assertEqual(told[1], kept)
        self.assertEqual([first.carries(), second.carries()], [one.carries, other.carries])


if __name__ == "__main__":
    unittest.main()
