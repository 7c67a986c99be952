"""What several tests need: any things, a walk of their own over the rules, a group on a group."""

from random import Random

from carrytower.groups import Group, Rounds
from carrytower.tables import Table, alike, break_of_two


class SaysEqual:
    """Equal to whatever it is held against."""

    def __eq__(self, other):
        return True

    __hash__ = None


class SaysError:
    """Nobody may ask it for equality, truth, length or a hash."""

    def refuse(self, *others):
        raise AssertionError("asked")

    __eq__ = __ne__ = __lt__ = __gt__ = __bool__ = __len__ = __hash__ = __iter__ = refuse


def round_list():
    """A list that bears itself."""
    things = [0]
    things.append(things)
    return things


def deep_tuple():
    """A tuple deeper than Python recurses."""
    deep = ()
    for _ in range(5000):
        deep = (deep, 0)
    return deep


def odd_things():
    """Things that are neither rounds nor an element of any group."""
    return [
        None, True, False, 0, 1, -1, 2, 10 ** 59, -(10 ** 59), "", "0", "1", "2x2", "0,0", "-", b"", b"\x00\x01",
        {}, {0: 0}, {(0, 0): (0, 0)}, {2}, set(), frozenset([2]), range(2), range(0), object(), int, tuple, len,
        Ellipsis, NotImplemented, ValueError(0), iter([2, 2]), round_list(), SaysEqual(), SaysError(),
        deep_tuple(), (SaysEqual(),), (SaysError(),), (None,), ("0",), ((0,),), ([0],), (True,), (False,),
        (SaysEqual(), SaysEqual()), (SaysError(), SaysError()), ({}, {}),
    ]


def add_places(rounds, x, y):
    """The sum by the words of the document, not by the program."""
    return tuple((k + m) % n for k, m, n in zip(x, y, rounds))


def all_tuples(rounds):
    """All elements, made otherwise than the program makes them."""
    if not rounds:
        return [()]
    return [(k,) + rest for k in range(rounds[0]) for rest in all_tuples(rounds[1:])]


def walk_three(lower, upper, carries):
    """All triples that break the rule for three, by rounds alone."""
    members = all_tuples(upper)
    return [
        (x, y, z)
        for x in members for y in members for z in members
        if add_places(lower, carries[(x, y)], carries[(add_places(upper, x, y), z)])
        != add_places(lower, carries[(y, z)], carries[(x, add_places(upper, y, z))])
    ]


def walk_two(upper, carries):
    """All pairs whose carries are not even."""
    members = all_tuples(upper)
    return [(x, y) for x in members for y in members if carries[(x, y)] != carries[(y, x)]]


def any_carries(lower, upper, seed):
    """Carries without any rule."""
    chance = Random(seed)
    below, members = all_tuples(lower), all_tuples(upper)
    return {(x, y): chance.choice(below) for x in members for y in members}


def ruled_carries(lower, upper, seed):
    """Even carries that keep the rule for three: a carry by columns and a relabeling's own table."""
    chance = Random(seed)
    below, members = all_tuples(lower), all_tuples(upper)
    columns = [chance.choice(below) for _ in upper]
    relabel = {x: chance.choice(below) for x in members}
    carries = {}
    for x in members:
        for y in members:
            apart = relabel[add_places(upper, x, y)]
            sums = [p + q - r for p, q, r in zip(relabel[x], relabel[y], apart)]
            for column, k, m, n in zip(columns, x, y, upper):
                if k + m >= n:
                    sums = [s + c for s, c in zip(sums, column)]
            carries[(x, y)] = tuple(s % n for s, n in zip(sums, lower))
    return carries


class Pile(Group):
    """A group on a group by a table's carries: what a table's lower group may be beside one by rounds."""

    def __init__(self, table):
        self.table = table

    def members(self):
        return [(a, x) for a in self.table.lower.members() for x in self.table.upper.members()]

    def has(self, thing):
        if not isinstance(thing, tuple) or len(thing) != 2:
            return False
        return self.table.lower.has(thing[0]) and self.table.upper.has(thing[1])

    def nought(self):
        bottom = self.table.upper.nought()
        return (self.table.lower.back(self.table.carry(bottom, bottom)), bottom)

    def like(self, other):
        return isinstance(other, Pile) and alike(self.table, other.table)

    def is_even(self):
        return break_of_two(self.table) is None

    def sum_of(self, x, y):
        lower, upper = self.table.lower, self.table.upper
        return (lower.total([x[0], y[0], self.table.carry(x[1], y[1])]), upper.added(x[1], y[1]))

    def back_of(self, x):
        return [y for y in self.members() if self.sum_of(x, y) == self.nought()][0]


def even_pile(lower, upper, seed=0):
    """A pile in which adding goes by any order."""
    return Pile(Table(Rounds(lower), Rounds(upper), ruled_carries(lower, upper, seed)))


def uneven_pile():
    """A pile of eight in which adding doesn't go by any order, and whose nought is not all 0."""
    members = all_tuples((2, 2))
    carries = {(x, y): ((1 + x[0] * y[1]) % 2,) for x in members for y in members}
    return Pile(Table(Rounds((2,)), Rounds((2, 2)), carries))
