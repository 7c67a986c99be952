"""Points 2, 32, 33: the desk, its lines, its refusals."""

import unittest
from functools import cache
from math import prod
from random import Random

from carrytower.desk import Desk
from carrytower.errors import (
    CarryError, NoCount, NoHead, NoLine, NoLower, NoName, NoPair, NoText, NothingDone, NotLike, NoTower, NoUpper, Uneven,
)
from helper import (
    SHAPES, Model, add_places, all_rounds, all_tuples, many_times, odds_for, own_carries, two_rounds, walk_three,
    walk_two, walked_kind,
)

NAMES = ("a", "b", "abc", "abcdefgh", "zz")


def text(x):
    return ",".join(str(k) for k in x) or "-"


def rounds(group):
    return "x".join(str(n) for n in group) or "1"


def orders(model):
    return tuple(sorted(model.order(p) for p in model.members))


@cache
def chains(many):
    """All rounds of so many elements of which each divides the next one, by their elements' orders."""
    found = [chain for chain in all_rounds(many) if prod(chain) == many and all(m % n == 0 for n, m in zip(chain, chain[1:]))]
    return {orders(Model(chain)): chain for chain in found}


def plainest_text(model):
    """The one chain of rounds whose group has as many elements of each order."""
    return rounds(chains(len(model.members))[orders(model)])


def number_of_kinds(lower, upper):
    nought, many = (0,) * len(lower), 1
    for n in upper:
        many *= len(all_tuples(lower)) // len({many_times(lower, n, a) for a in all_tuples(lower)})
    for i, j in two_rounds(upper):
        many *= sum(many_times(lower, upper[i], a) == nought == many_times(lower, upper[j], a) for a in all_tuples(lower))
    return many


class Book:
    """Does what a desk is told by the words of the document, and tells what it must answer."""

    def __init__(self):
        self.kept, self.before = {}, []

    def made(self, name, table):
        self.before.append(dict(self.kept))
        if table is None:
            del self.kept[name]
        else:
            self.kept[name] = table
        return "done"

    def undo(self):
        self.kept = self.before.pop()
        return "done"

    def plain(self, new, lower, upper, columns):
        model, members = Model(lower), all_tuples(upper)
        return self.made(new, (lower, upper, {
            (x, y): model.total([c for c, k, m, n in zip(columns, x, y, upper) if k + m >= n]) for x in members for y in members}))

    def pair(self, new, lower, upper, i, j, a):
        members = all_tuples(upper)
        return self.made(new, (lower, upper, {(x, y): many_times(lower, x[i] * y[j], a) for x in members for y in members}))

    def sum(self, new, one, other):
        (lower, upper, first), (_, _, second) = self.kept[one], self.kept[other]
        return self.made(new, (lower, upper, {key: add_places(lower, first[key], second[key]) for key in first}))

    def often(self, new, old, n):
        lower, upper, carries = self.kept[old]
        return self.made(new, (lower, upper, {key: many_times(lower, n, carries[key]) for key in carries}))

    def about(self, new, old):
        lower, upper, carries = self.kept[old]
        return self.made(new, (lower, upper, {(x, y): carries[(y, x)] for x, y in carries}))

    def change(self, new, old, x, a):
        lower, upper, carries = self.kept[old]
        own = own_carries(Model(lower), upper, {**{y: (0,) * len(lower) for y in all_tuples(upper)}, x: a})
        return self.made(new, (lower, upper, {key: add_places(lower, carries[key], own[key]) for key in carries}))

    def put(self, new, old, x, y, a):
        lower, upper, carries = self.kept[old]
        return self.made(new, (lower, upper, {**carries, (x, y): a}))

    def judge(self, old):
        lower, upper, carries = self.kept[old]
        three, two = walk_three(lower, upper, carries), walk_two(upper, carries)
        if three:
            return " ".join(["three"] + [text(x) for x in min(three)])
        return " ".join(["two"] + [text(x) for x in min(two)]) if two else "even"

    def has_rule(self, old):
        return not walk_three(*self.kept[old])

    def kind(self, old):
        rests, odd_ones = walked_kind(*self.kept[old])
        return " ".join(["kind"] + [text(a) for a in rests + odd_ones])

    def same(self, one, other):
        upper = self.kept[one][1]
        first, second = walked_kind(*self.kept[one]), walked_kind(*self.kept[other])
        for i in range(len(upper)):
            if first[0][i] != second[0][i]:
                return f"apart weighing {i}"
        for at, (i, j) in enumerate(sorted(two_rounds(upper))):
            if first[1][at] != second[1][at]:
                return f"apart odds {i} {j}"
        return "same"

    def tower(self, old):
        lower, upper, carries = self.kept[old]
        return Model(upper, Model(lower), carries)


class Held(unittest.TestCase):
    """What the tests of the desk share."""

    def desk(self, *lines):
        desk = Desk()
        for line in lines:
            self.assertEqual(desk.told(line), "done")
        return desk

    def told(self, desk, line, wanted):
        answer = desk.told(line)
        self.assertEqual(answer, wanted, line)
        self.assertIs(type(answer), str)

    def refused(self, desk, line, error, **fields):
        with self.assertRaises(error, msg=line) as caught:
            desk.told(line)
        self.assertIs(type(caught.exception), error, line)
        self.assertEqual(vars(caught.exception), fields, line)

    def keeps(self, desk, kept):
        """Each kept table answers its carries, each other name is unknown."""
        for name in NAMES:
            if name not in kept:
                self.refused(desk, f"judge {name}", NoName, name=name)
                continue
            for (x, y), carried in kept[name][2].items():
                self.told(desk, f"carry {name} {text(x)} {text(y)}", text(carried))


class Lines(Held):
    """Point 32: each line of the list."""

    def step(self, chance, desk, book):
        """One line by chance that changes something, told to both."""
        lower, upper = chance.choice([shape for shape in SHAPES if len(all_tuples(shape[1])) < 6])
        new, word = chance.choice(NAMES), chance.choice(("plain", "pair", "sum", "often", "about", "change", "put", "drop", "undo"))
        below = all_tuples(lower)
        if word == "plain" or not book.kept and word != "undo":
            columns = [chance.choice(below) for _ in upper]
            line = " ".join(["plain", new, rounds(lower), rounds(upper)] + [text(c) for c in columns])
            return self.told(desk, line, book.plain(new, lower, upper, columns))
        if word == "pair" and len(upper) > 1:
            i, j = chance.choice(two_rounds(upper))
            a = chance.choice(odds_for(lower, upper, i, j))
            line = f"pair {new} {rounds(lower)} {rounds(upper)} {i} {j} {text(a)}"
            return self.told(desk, line, book.pair(new, lower, upper, i, j, a))
        if word == "undo" and book.before:
            return self.told(desk, "undo", book.undo())
        return self.on_old(chance, desk, book, new, word) if book.kept else None

    def on_old(self, chance, desk, book, new, word):
        old = chance.choice(sorted(book.kept))
        lower, upper, carries = book.kept[old]
        x, y, a = chance.choice(all_tuples(upper)), chance.choice(all_tuples(upper)), chance.choice(all_tuples(lower))
        if word == "sum":
            other = chance.choice([name for name in sorted(book.kept) if book.kept[name][:2] == (lower, upper)])
            return self.told(desk, f"sum {new} {old} {other}", book.sum(new, old, other))
        if word == "often":
            n = chance.choice([0, 1, -1, 2, 7, -5, 999999999, -999999999, 123456789, 10])
            return self.told(desk, f"often {new} {old} {n}", book.often(new, old, n))
        if word == "about":
            return self.told(desk, f"about {new} {old}", book.about(new, old))
        if word == "change":
            return self.told(desk, f"change {new} {old} {text(x)} {text(a)}", book.change(new, old, x, a))
        if word == "put":
            return self.told(desk, f"put {new} {old} {text(x)} {text(y)} {text(a)}", book.put(new, old, x, y, a))
        return self.told(desk, f"drop {old}", book.made(old, None))

    def ask(self, chance, desk, book):
        """All that can be asked of a table."""
        if not book.kept:
            return
        old, other = chance.choice(sorted(book.kept)), chance.choice(sorted(book.kept))
        lower, upper, carries = book.kept[old]
        self.told(desk, f"judge {old}", book.judge(old))
        if not book.has_rule(old):
            return
        self.told(desk, f"kind {old}", book.kind(old))
        if book.kept[other][:2] == (lower, upper) and book.has_rule(other):
            self.told(desk, f"same {old} {other}", book.same(old, other))
        self.told(desk, f"same {old} {old}", "same")
        if len(carries) * len(all_tuples(lower)) < 150:
            tower = book.tower(old)
            p = chance.choice(tower.members)
            self.told(desk, f"order {old} {text(p[0])} {text(p[1])}", str(tower.order(p)))
            if tower.is_even():
                self.told(desk, f"rounds {old}", plainest_text(tower))
        self.told(desk, f"kinds {rounds(lower)} {rounds(upper)}", str(number_of_kinds(lower, upper)))

    def test_many_lines(self):
        for seed in range(12):
            chance, desk, book = Random(seed), Desk(), Book()
            for at in range(60):
                self.step(chance, desk, book)
                self.ask(chance, desk, book)
                if at % 10 == 0:
                    self.keeps(desk, book.kept)
            self.keeps(desk, book.kept)
            while book.before:
                self.told(desk, "undo", book.undo())
                self.ask(chance, desk, book)
            self.keeps(desk, {})
            self.refused(desk, "undo", NothingDone)

    def test_each_line_once(self):
        desk = Desk()
        for line, wanted in (
            ("plain a 4 2x2 1 0", "done"), ("carry a 1,0 1,0", "1"), ("carry a 0,1 0,1", "0"), ("judge a", "even"), ("kind a", "kind 1 0 0"),
            ("rounds a", "2x8"), ("order a 0 1,0", "8"), ("order a 2 0,1", "2"), ("pair b 4 2x2 0 1 2", "done"), ("carry b 1,0 0,1", "2"),
            ("carry b 0,1 1,0", "0"), ("judge b", "two 0,1 1,0"), ("kind b", "kind 0 0 2"), ("same a b", "apart weighing 0"),
            ("sum c a b", "done"), ("kind c", "kind 1 0 2"), ("same a c", "apart odds 0 1"), ("same c a", "apart odds 0 1"),
            ("often d a 3", "done"), ("carry d 1,0 1,1", "3"), ("same a d", "same"), ("often e a -1", "done"), ("carry e 1,0 1,0", "3"),
            ("about f b", "done"), ("carry f 0,1 1,0", "2"), ("carry f 1,0 0,1", "0"), ("change g a 1,1 3", "done"), ("same a g", "same"),
            ("carry g 1,1 1,1", "3"), ("carry g 1,0 0,1", "1"), ("put h a 1,1 1,1 2", "done"), ("judge h", "three 0,1 1,0 1,1"),
            ("kinds 4 2x2", "8"), ("kinds 2x2x2x2 2x2x2", "16777216"), ("kinds 1 1", "1"), ("drop a", "done"), ("undo", "done"),
            ("judge a", "even"),
        ):
            self.told(desk, line, wanted)

    def test_groups_of_no_rounds(self):
        desk = Desk()
        for line, wanted in (
            ("plain a 1 1", "done"), ("carry a - -", "-"), ("judge a", "even"), ("kind a", "kind"), ("rounds a", "1"),
            ("order a - -", "1"), ("same a a", "same"), ("plain b 3 1", "done"), ("carry b - -", "0"), ("kind b", "kind"),
            ("rounds b", "3"), ("order b 1 -", "3"), ("put b b - - 2", "done"), ("carry b - -", "2"), ("judge b", "even"),
            ("order b 1 -", "1"), ("order b 2 -", "3"), ("kind b", "kind"), ("plain c 1 2x2 - -", "done"), ("kind c", "kind - - -"),
            ("rounds c", "2x2"), ("carry c 1,1 1,1", "-"), ("pair d 1 2x2 0 1 -", "done"), ("same c d", "same"), ("judge d", "even"),
            ("change d d 0,0 -", "done"), ("often a a -7", "done"), ("sum a a a", "done"), ("about a a", "done"), ("drop a", "done"),
        ):
            self.told(desk, line, wanted)

    def test_new_that_is_old(self):
        desk = self.desk("plain a 5 2 1")
        for line, carried in (
            ("sum a a a", "2"), ("often a a 3", "1"), ("about a a", "1"), ("put a a 1 1 4", "4"), ("change a a 1 1", "1"),
            ("often a a -1", "4"),
        ):
            self.told(desk, line, "done")
            self.told(desk, "carry a 1 1", carried)
        for carried in ("1", "4", "1", "1", "2", "1"):
            self.told(desk, "undo", "done")
            self.told(desk, "carry a 1 1", carried)

    def test_new_that_was_kept_already(self):
        desk = self.desk("plain a 5 2 1", "plain b 7 3 2", "about b a")
        self.told(desk, "carry b 1 1", "1")
        self.told(desk, "undo", "done")
        self.told(desk, "carry b 2 2", "2")
        self.refused(desk, "carry a 2 2", NoText, at=2)

    def test_what_is_made_of_a_name_stays_when_the_name_goes(self):
        desk = self.desk("plain a 5 2 1", "about b a", "put a a 1 1 0", "drop a")
        self.told(desk, "carry b 1 1", "1")
        self.refused(desk, "carry a 1 1", NoName, name="a")

    def test_change_and_put_touch_nothing_else(self):
        for lower, upper in SHAPES:
            if not 1 < len(all_tuples(upper)) < 9:
                continue
            desk, book = Desk(), Book()
            columns = [all_tuples(lower)[-1]] * len(upper)
            line = " ".join(["plain", "a", rounds(lower), rounds(upper)] + [text(c) for c in columns])
            self.told(desk, line, book.plain("a", lower, upper, columns))
            for at, x in enumerate(all_tuples(upper)):
                a, y = all_tuples(lower)[at % len(all_tuples(lower))], all_tuples(upper)[-at]
                self.told(desk, f"change b a {text(x)} {text(a)}", book.change("b", "a", x, a))
                self.told(desk, f"put abc a {text(x)} {text(y)} {text(a)}", book.put("abc", "a", x, y, a))
                self.keeps(desk, book.kept)

    def test_order_of_all(self):
        for lines in (
            ("plain a 4 2 1", "change a a 0 3"), ("pair a 2 2x2 0 1 1", "plain b 2 2x2 1 1", "sum a a b"),
            ("plain a 3 3x3 1 0", "pair b 3 3x3 0 1 2", "sum a a b", "change a a 1,2 2"),
        ):
            desk, book = self.desk(*lines), Book()
            for line in lines:
                self.follow(book, line)
            tower = book.tower("a")
            for a, x in tower.members:
                self.told(desk, f"order a {text(a)} {text(x)}", str(tower.order((a, x))))

    def follow(self, book, line):
        """Tell a line to the book, too."""
        word, new, *rest = line.split(" ")
        element = lambda part: tuple(int(k) for k in part.split(","))
        group = lambda part: tuple(int(k) for k in part.split("x"))
        if word == "plain":
            book.plain(new, group(rest[0]), group(rest[1]), [element(part) for part in rest[2:]])
        if word == "pair":
            book.pair(new, group(rest[0]), group(rest[1]), int(rest[2]), int(rest[3]), element(rest[4]))
        if word == "sum":
            book.sum(new, *rest)
        if word == "change":
            book.change(new, rest[0], element(rest[1]), element(rest[2]))

    def test_kinds(self):
        for lower in all_rounds(16)[::4]:
            for upper in all_rounds(9):
                self.told(Desk(), f"kinds {rounds(lower)} {rounds(upper)}", str(number_of_kinds(lower, upper)))

    def test_great_rounds(self):
        desk = self.desk("plain a 16 9 1", "plain b 2x8 2x4 1,0 0,1", "plain c 2x2x2x2 2x2x2 0,0,0,0 0,0,0,0 0,0,0,0", "plain d 15 8 0")
        for name, wanted in (("a", "144"), ("b", "4x32"), ("c", "2x2x2x2x2x2x2"), ("d", "120")):
            self.told(desk, f"rounds {name}", wanted)
        # The element 8 above and 1 below is the number 8 + 9 of all 144.
        self.told(desk, "order a 1 8", "144")
        self.told(desk, "order a 2 0", "8")


class Undo(Held):
    """Point 32: undo."""

    ROWS = (
        "plain b 3 3 1", "pair b 2 2x2 0 1 1", "sum b a a", "often b a 2", "about b a", "change b a 1 2", "put b a 1 1 0",
    )

    def test_each_row_alone(self):
        for row in self.ROWS:
            for before in (("plain a 5 2 1",), ("plain a 5 2 1", "plain b 7 2 6")):
                desk = self.desk(*before)
                self.told(desk, row, "done")
                self.told(desk, "undo", "done")
                self.told(desk, "carry a 1 1", "1")
                if len(before) == 1:
                    self.refused(desk, "judge b", NoName, name="b")
                else:
                    self.told(desk, "carry b 1 1", "6")
                for _ in before:
                    self.told(desk, "undo", "done")
                self.refused(desk, "judge a", NoName, name="a")
                self.refused(desk, "undo", NothingDone)

    def test_drop(self):
        desk = self.desk("plain a 5 2 1", "drop a")
        self.refused(desk, "judge a", NoName, name="a")
        self.refused(desk, "drop a", NoName, name="a")
        self.told(desk, "undo", "done")
        self.told(desk, "carry a 1 1", "1")
        self.told(desk, "drop a", "done")
        self.told(desk, "plain a 7 2 3", "done")
        self.told(desk, "undo", "done")
        self.refused(desk, "judge a", NoName, name="a")
        self.told(desk, "undo", "done")
        self.told(desk, "carry a 1 1", "1")
        self.told(desk, "undo", "done")
        self.refused(desk, "judge a", NoName, name="a")
        self.refused(desk, "undo", NothingDone)

    def test_several_in_their_turn(self):
        desk = self.desk("plain a 9 2 1", "plain a 9 2 2", "plain b 9 2 3", "drop a", "plain a 9 2 4", "drop b", "sum b a a")
        states = [("4", None), ("4", "3"), (None, "3"), ("2", "3"), ("2", None), ("1", None), (None, None)]
        for state in states:
            self.told(desk, "undo", "done")
            for name, carried in zip("ab", state):
                if carried is None:
                    self.refused(desk, f"carry {name} 1 1", NoName, name=name)
                else:
                    self.told(desk, f"carry {name} 1 1", carried)
        self.refused(desk, "undo", NothingDone)

    def test_undone_is_undone(self):
        desk = self.desk("plain a 9 2 1", "undo", "plain b 9 2 2", "undo")
        self.refused(desk, "undo", NothingDone)
        self.told(desk, "plain a 9 2 3", "done")
        self.told(desk, "plain a 9 2 4", "done")
        self.told(desk, "undo", "done")
        self.told(desk, "plain a 9 2 5", "done")
        self.told(desk, "undo", "done")
        self.told(desk, "carry a 1 1", "3")
        self.told(desk, "undo", "done")
        self.refused(desk, "undo", NothingDone)

    def test_what_only_asks_is_no_row(self):
        desk = self.desk("plain a 9 2 1", "plain a 9 2 2")
        for line in ("carry a 1 1", "judge a", "kind a", "same a a", "rounds a", "order a 1 1", "kinds 9 2"):
            desk.told(line)
        self.told(desk, "undo", "done")
        self.told(desk, "carry a 1 1", "1")
        desk = Desk()
        desk.told("kinds 2 2")
        self.refused(desk, "undo", NothingDone)

    def test_what_is_refused_is_no_row(self):
        desk = self.desk("plain a 9 2 1", "plain b 4 2x2 0 1", "put c a 1 1 2")
        for line in (
            "plain a 9 2", "plain a 9 2 9", "plain a 17 2 1", "plain a 9 10 1", "plain a 0 2 1", "pair a 4 2x2 1 0 2", "pair a 4 2x2 0 1 1",
            "pair a 4 2x2 0 1 7", "sum a a b", "sum a a d", "often a d 2", "often a a +2", "about a d", "change a a 2 1", "change a a 1 9",
            "put a a 1 1 9", "put a a 2 1 1", "drop d", "drop A", "drop", "undo a", "kind d", "same a b", "rounds d", "order a 9 1", "x",
        ):
            with self.assertRaises(CarryError, msg=line):
                desk.told(line)
            self.told(desk, "carry a 1 1", "1")
            self.told(desk, "carry b 0,1 0,1", "1")
            self.told(desk, "carry c 1 1", "2")
        self.told(desk, "undo", "done")
        self.refused(desk, "judge c", NoName, name="c")
        self.told(desk, "undo", "done")
        self.refused(desk, "judge b", NoName, name="b")
        self.told(desk, "undo", "done")
        self.refused(desk, "undo", NothingDone)

    def test_two_desks(self):
        one, other = self.desk("plain a 9 2 1"), Desk()
        self.refused(other, "judge a", NoName, name="a")
        self.refused(other, "undo", NothingDone)
        self.told(other, "plain a 9 2 5", "done")
        self.told(one, "carry a 1 1", "1")
        self.told(one, "drop a", "done")
        self.told(other, "carry a 1 1", "5")
        self.told(other, "undo", "done")
        self.told(one, "undo", "done")
        self.told(one, "carry a 1 1", "1")
        self.refused(other, "undo", NothingDone)
        self.refused(Desk(), "undo", NothingDone)


GOOD = (
    "plain n 4 2x2 1 0", "pair n 4 2x2 0 1 2", "sum n a b", "often n a 2", "about n a", "change n a 1,0 3", "put n a 1,0 0,1 3", "drop a",
    "undo", "carry a 1,0 0,1", "judge a", "kind a", "same a b", "rounds a", "order a 3 1,0", "kinds 4 2x2",
)
# The places of names, by the first word.
NAME_PLACES = {
    "plain": (1,), "pair": (1,), "sum": (1, 2, 3), "often": (1, 2), "about": (1, 2), "change": (1, 2), "put": (1, 2), "drop": (1,),
    "carry": (1,), "judge": (1,), "kind": (1,), "same": (1, 2), "rounds": (1,), "order": (1,),
}
OLD_PLACES = {
    "sum": (2, 3), "often": (2,), "about": (2,), "change": (2,), "put": (2,), "drop": (1,), "carry": (1,), "judge": (1,), "kind": (1,),
    "same": (1, 2), "rounds": (1,), "order": (1,),
}
# The places of texts, in the order in which they are read.
LOWER_PLACES = {"plain": 2, "pair": 2, "kinds": 1}
BELOW = {"plain": (4, 5), "pair": (6,), "change": (4,), "put": (5,), "order": (2,)}
ABOVE = {"change": (3,), "put": (3, 4), "carry": (2, 3), "order": (3,)}
NO_NAMES = ("", "A", "aB", "abcdefghi", "a1", "1", "a-b", "a_b", "a.", "-", "~", "a\tb", "aaaaaaaaaaaaaaaaaaaa", "a,b", "`", "{", "@", "[")
NO_LOWERS = ("", "0", "2x", "x2", "2x1", "1x2", "02", "4,", "145", "2X2", "a", "-2", "+2", "2x2x2x2x2x2x2x2", "13x12")
NO_BELOWS = ("", "4", "-1", "+1", "01", "1,0", "-", "a", "1,", ",1", "1.0", "0000", "--", "9")
NO_ABOVES = ("", "1", "2,0", "0,2", "1,1,1", "-", "01,1", "1,+1", "1,-1", "1;1", ",", "1,", "a,b", "1x1")


def with_word(line, at, word):
    words = line.split(" ")
    words[at] = word
    return " ".join(words)


class Refused(Held):
    """Point 33."""

    def full(self):
        return self.desk("plain a 4 2x2 1 0", "plain b 4 2x2 2 1")

    def test_the_good_ones_are_good(self):
        for line in GOOD:
            self.assertIsInstance(self.full().told(line), str)

    def test_first_words(self):
        for line in (
            "", " ", "  ", "Plain n 4 2x2 1 0", "JUDGE a", "judges a", "judg a", "a", "judge,a", "redo", "undone", "done", "kind,", "-", "~",
            "three", "even", "0", "1", "NEW", "plain\tn 4 2 1", "judge\ta", "quit", "kinds2 2", "tables", "told", "keep",
        ):
            self.refused(self.full(), line, NoLine)

    def test_too_few_and_too_many_words(self):
        for line in GOOD:
            words = line.split(" ")
            least = 4 if words[0] == "plain" else len(words)
            for many in range(1, least):
                self.refused(self.full(), " ".join(words[:many]), NoLine)
            if words[0] != "plain":
                for more in ("a", "0", "1,0", "-", "2x2", ""):
                    self.refused(self.full(), line + " " + more, NoLine)
                    self.refused(Desk(), line + " " + more, NoLine)

    def test_blanks(self):
        for line in GOOD:
            self.refused(self.full(), " " + line, NoLine)
            self.refused(self.full(), "  " + line, NoLine)
            if line.startswith("plain"):
                continue
            self.refused(self.full(), line + " ", NoLine)
            for at, sign in enumerate(line):
                if sign == " ":
                    self.refused(self.full(), line[:at] + " " + line[at:], NoLine)

    def test_blanks_of_plain(self):
        desk = self.full()
        for line, error, fields in (
            ("plain n 4 2x2 1 0 ", NoCount, {}), ("plain n 4 2x2 1 ", NoText, {"at": 5}), ("plain  n 4 2x2 1 0", NoLine, {}),
            ("plain n  4 2x2 1 0", NoText, {"at": 2}), ("plain n 4  2x2 1 0", NoText, {"at": 3}), ("plain n 4 2x2  1 0", NoCount, {}),
            ("plain n 4 2x2  1", NoText, {"at": 4}), ("plain n 4 ", NoText, {"at": 3}), ("plain n  ", NoText, {"at": 2}),
            ("plain n ", NoLine, {}), ("plain n 4 2x2 ", NoCount, {}), ("plain n 4 2 ", NoText, {"at": 4}), ("plain n 4 1 ", NoCount, {}),
        ):
            self.refused(desk, line, error, **fields)

    def test_names(self):
        for line in GOOD:
            for at in NAME_PLACES.get(line.split(" ")[0], ()):
                for name in NO_NAMES:
                    self.refused(self.full(), with_word(line, at, name), NoLine)
        desk = self.desk("plain abcdefgh 4 2 1", "plain z 4 2 1", "plain a 4 2 1", "plain plain 4 2 1", "plain undo 4 2 1")
        self.told(desk, "same abcdefgh z", "same")
        self.told(desk, "same plain undo", "same")

    def test_figures(self):
        for wrong in ("", "00", "01", "10", "12", "-1", "+1", "a", "-", ",", "0,", "1.", "123456789", "-0", "x"):
            self.refused(self.full(), f"pair n 4 2x2 {wrong} 1 2", NoLine)
            self.refused(self.full(), f"pair n 4 2x2 0 {wrong} 2", NoLine)

    def test_numbers(self):
        for wrong in (
            "", "00", "01", "-0", "-01", "+1", "+0", "--1", "-", "1-", "1234567890", "-1234567890", "0000000000", "a", "1a", "1,0", "1.0", "1e3",
            "0x1", "1_0", "1x2", " ", "999999999999999999999", "-00", "0-",
        ):
            self.refused(self.full(), f"often n a {wrong}", NoLine)
        desk = self.full()
        for right in ("0", "1", "-1", "10", "-10", "999999999", "-999999999", "123456789", "100000000", "9"):
            self.told(desk, f"often n a {right}", "done")
            self.told(desk, "carry n 1,0 1,0", str(int(right) % 4))

    def test_no_line_ahead_of_all_else(self):
        for line in (
            "plain N 0 0 x", "plain a", "plain a 0", "pair n 0 0 10 1 x", "pair n 17 10 0 x x", "sum n q Q", "sum n q q q", "sum N q q",
            "often n q 01", "often q q -0", "about n", "about N q", "change n q x x x", "change Q q x x", "put n q x y", "put n Q x y z",
            "drop Q", "drop q q", "undo q", "carry q x", "carry Q x y", "judge Q", "judge q q", "kind q q", "same q Q", "same q",
            "same Q q", "rounds q q", "order q x", "order Q x x", "kinds x", "kinds x y z", "kinds 17 10 1",
        ):
            self.refused(self.full(), line, NoLine)
            self.refused(Desk(), line, NoLine)

    def test_no_name(self):
        for line in GOOD:
            for at in OLD_PLACES.get(line.split(" ")[0], ()):
                for name in ("q", "n", "aa", "abcdefgh", "judge"):
                    self.refused(self.full(), with_word(line, at, name), NoName, name=name)
                desk = self.desk("plain b 4 2x2 1 0", "plain a 4 2x2 1 0", f"drop {line.split(' ')[at]}")
                self.refused(desk, line, NoName, name=line.split(" ")[at])

    def test_the_leftmost_name(self):
        for line in ("sum n {} {}", "same {} {}"):
            self.refused(self.full(), line.format("q", "r"), NoName, name="q")
            self.refused(self.full(), line.format("a", "r"), NoName, name="r")
            self.refused(self.full(), line.format("q", "a"), NoName, name="q")

    def test_no_name_ahead_of_texts(self):
        for line in ("change n q 9 9", "put n q 9 9 9", "carry q 9 9", "order q 9 9"):
            self.refused(self.full(), line, NoName, name="q")

    def test_texts_of_rounds(self):
        for line in ("plain n 4 2x2 1 0", "pair n 4 2x2 0 1 2", "kinds 4 2x2"):
            at = LOWER_PLACES[line.split(" ")[0]]
            for word in NO_LOWERS:
                self.refused(self.full(), with_word(line, at, word), NoText, at=at)
                self.refused(self.full(), with_word(line, at + 1, word), NoText, at=at + 1)
                self.refused(self.full(), with_word(with_word(line, at, word), at + 1, word), NoText, at=at)

    def test_texts_of_elements(self):
        for line in GOOD:
            word = line.split(" ")[0]
            for places, wrong in ((BELOW, NO_BELOWS), (ABOVE, NO_ABOVES)):
                for at in places.get(word, ()):
                    for other in wrong:
                        self.refused(self.full(), with_word(line, at, other), NoText, at=at)

    def test_the_leftmost_text(self):
        for line in GOOD:
            word = line.split(" ")[0]
            places = sorted(BELOW.get(word, ()) + ABOVE.get(word, ()))
            for k, at in enumerate(places):
                for later in places[k + 1:]:
                    self.refused(self.full(), with_word(with_word(line, at, "q"), later, "q"), NoText, at=at)

    def test_elements_of_the_right_group(self):
        desk = self.desk("plain a 9 2x2 1 0", "plain b 2x2 9 1,1")
        for line, at in (
            ("change n a 8 1", 3), ("change n a 1,1 1,1", 4), ("put n a 1,1 8 8", 4), ("put n a 1,1 1,1 1,1", 5), ("order a 1,1 8", 2),
            ("order a 8 8", 3), ("carry a 8 1,1", 2), ("carry a 1,1 8", 3), ("change n b 1,1 1,1", 3), ("change n b 8 8", 4),
            ("put n b 8 8 8", 5), ("put n b 8 1,1 1,1", 4), ("order b 8 1,1", 2), ("order b 1,1 1,1", 3), ("carry b 8 9", 3),
        ):
            self.refused(desk, line, NoText, at=at)

    def test_groups_behind_their_texts_ahead_of_elements(self):
        desk = self.full()
        for line, error, fields in (
            ("plain n 17 2 1", NoLower, {}), ("plain n 17 10 1", NoLower, {}), ("plain n 2x9 144 x", NoLower, {}), ("plain n 17 2x", NoText, {"at": 3}),
            ("plain n 17 145 1", NoText, {"at": 3}), ("plain n 4 10 1", NoUpper, {}), ("plain n 4 10 x", NoUpper, {}), ("plain n 4 10", NoUpper, {}),
            ("plain n 4 2x5 1", NoUpper, {}), ("plain n 17 2", NoLower, {}), ("plain n 16 9 1 1", NoCount, {}), ("plain n 4 16 1 1 1", NoUpper, {}),
            ("pair n 17 2x2 0 1 0", NoLower, {}), ("pair n 17 10 1 0 x", NoLower, {}), ("pair n 17 y 1 0 x", NoText, {"at": 3}),
            ("pair n 4 2x5 0 1 x", NoUpper, {}), ("pair n 4 2x5 1 0 0", NoUpper, {}), ("pair n x 2x5 1 0 0", NoText, {"at": 2}),
            ("kinds 17 2", NoLower, {}), ("kinds 17 10", NoLower, {}), ("kinds 4 10", NoUpper, {}), ("kinds 17 x", NoText, {"at": 2}),
            ("kinds 145 10", NoText, {"at": 1}), ("kinds 144 144", NoLower, {}), ("kinds 16 3x3x2", NoUpper, {}),
        ):
            self.refused(desk, line, error, **fields)

    def test_no_count_ahead_of_elements(self):
        desk = self.full()
        for line in (
            "plain n 4 2x2", "plain n 4 2x2 1", "plain n 4 2x2 x", "plain n 4 2x2 1 0 1", "plain n 4 2x2 x y z", "plain n 4 1 0", "plain n 4 1 x",
            "plain n 4 2", "plain n 4 2 1 1", "plain n 1 2x2x2 - -", "plain n 1 1 -", "plain n 4 2" + " 1" * 200,
        ):
            self.refused(desk, line, NoCount)

    def test_no_head_then_no_pair_behind_the_element(self):
        desk = self.full()
        for line, error, fields in (
            ("pair n 4 2x2 0 0 2", NoHead, {}), ("pair n 4 2x2 1 0 2", NoHead, {}), ("pair n 4 2x2 1 1 2", NoHead, {}), ("pair n 4 2x2 0 2 2", NoHead, {}),
            ("pair n 4 2x2 2 3 2", NoHead, {}), ("pair n 4 2x2 9 9 1", NoHead, {}), ("pair n 4 2x2 1 0 1", NoHead, {}), ("pair n 4 2 0 1 2", NoHead, {}),
            ("pair n 4 1 0 1 2", NoHead, {}), ("pair n 4 1 0 0 0", NoHead, {}), ("pair n 4 2x2 1 0 4", NoText, {"at": 6}),
            ("pair n 4 2x2 9 9 x", NoText, {"at": 6}), ("pair n 4 2x2 0 1 x", NoText, {"at": 6}), ("pair n 4 2x2 0 1 1", NoPair, {}),
            ("pair n 4 2x4 0 1 1", NoPair, {}), ("pair n 4 4x2 0 1 3", NoPair, {}), ("pair n 9 3x3 0 1 1", NoPair, {}), ("pair n 6 2x3 0 1 3", NoPair, {}),
            ("pair n 8 2x2x2 1 2 2", NoPair, {}), ("pair n 8 2x2x2 2 1 2", NoHead, {}), ("pair n 8 2x2x2 0 3 4", NoHead, {}),
        ):
            self.refused(desk, line, error, **fields)
        self.told(desk, "pair n 8 2x2x2 1 2 4", "done")

    def test_not_like_ahead_of_no_tower(self):
        desk = self.desk("plain a 4 2x2 1 0", "plain b 4 4 1", "plain c 2x2 2x2 0,0 0,1", "put d a 0,0 0,0 1", "put e b 0 0 1", "plain f 8 2x2 1 0")
        for one, other in (("a", "b"), ("b", "a"), ("a", "c"), ("a", "f"), ("d", "e"), ("e", "d"), ("a", "e"), ("e", "a"), ("d", "b"), ("f", "d")):
            self.refused(desk, f"sum n {one} {other}", NotLike)
            self.refused(desk, f"same {one} {other}", NotLike)
        self.told(desk, "sum n a d", "done")

    def test_no_tower(self):
        desk = self.desk("plain a 4 2x2 1 0", "put b a 0,1 1,1 3", "put c a 0,0 0,0 1")
        base = {(x, y): (0,) for x in all_tuples((2, 2)) for y in all_tuples((2, 2))}
        base = {(x, y): ((1,) if x[0] + y[0] == 2 else (0,)) for x, y in base}
        three = min(walk_three((4,), (2, 2), {**base, ((0, 1), (1, 1)): (3,)}))
        other = min(walk_three((4,), (2, 2), {**base, ((0, 0), (0, 0)): (1,)}))
        self.assertNotEqual(three, other)
        for line, wanted in (
            ("kind b", three), ("rounds b", three), ("order b 1 1,0", three), ("same b b", three), ("same a b", three), ("same b a", three),
            ("same b c", three), ("same c b", other), ("kind c", other), ("rounds c", other), ("order c 0 0,0", other),
        ):
            self.refused(desk, line, NoTower, three=wanted)
        self.refused(desk, "order b 4 1,0", NoText, at=2)
        self.refused(desk, "order b 1 2,0", NoText, at=3)
        self.told(desk, "judge b", " ".join(["three"] + [text(x) for x in three]))

    def test_uneven_behind_no_tower(self):
        desk = self.desk("pair a 2 2x2 0 1 1", "put b a 0,0 0,0 1", "pair c 4 2x2x2 1 2 2")
        self.refused(desk, "rounds a", Uneven, two=((0, 1), (1, 0)))
        self.refused(desk, "rounds c", Uneven, two=((0, 0, 1), (0, 1, 0)))
        with self.assertRaises(NoTower):
            desk.told("rounds b")
        self.told(desk, "order a 0 1,1", "4")

    def test_nothing_done(self):
        desk = Desk()
        self.refused(desk, "undo", NothingDone)
        self.refused(desk, "undo ", NoLine)
        self.told(desk, "plain a 4 2 1", "done")
        self.told(desk, "undo", "done")
        for _ in range(3):
            self.refused(desk, "undo", NothingDone)

    def test_long_lines(self):
        desk = self.full()
        self.refused(desk, "judge " + "a" * 1990, NoLine)
        self.refused(desk, "a" * 2000, NoLine)
        self.refused(desk, " " * 2000, NoLine)
        self.refused(desk, "kinds 4 " + "2" * 1900, NoText, at=2)
        self.refused(desk, "kinds 4 " + "x".join(["2"] * 900), NoText, at=2)
        self.refused(desk, "often n a " + "9" * 1900, NoLine)
        self.refused(desk, "carry a " + ",".join(["0"] * 900) + " 0,0", NoText, at=2)
        self.refused(desk, "plain n 4 2x2 1 " + "0" * 1900, NoText, at=5)


if __name__ == "__main__":
    unittest.main()
