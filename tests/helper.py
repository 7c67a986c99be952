"""What several tests need: any things, a walk of their own over the rules, models of groups on groups."""

from functools import cache
from math import gcd
from random import Random

from carrytower.groups import Rounds
from carrytower.tables import Table
from carrytower.towers import Tower


class SaysEqual:
    """Equal to whatever it is held against."""

    def __eq__(self, other):
        return True

    __hash__ = None


class SaysError:
    """Nobody may ask it for equality, truth, length or a hash."""

    def refuse(self, *others):
        raise AssertionError("asked")

    __eq__ = __ne__ = __lt__ = __gt__ = __bool__ = __len__ = __hash__ = __iter__ = refuse


def round_list():
    """A list that bears itself."""
    things = [0]
    things.append(things)
    return things


def deep_tuple():
    """A tuple deeper than Python recurses."""
    deep = ()
    for _ in range(5000):
        deep = (deep, 0)
    return deep


def odd_things():
    """Things that are neither rounds nor an element of any group."""
    return [
        None, True, False, 0, 1, -1, 2, 10 ** 59, -(10 ** 59), "", "0", "1", "2x2", "0,0", "-", b"", b"\x00\x01",
        {}, {0: 0}, {(0, 0): (0, 0)}, {2}, set(), frozenset([2]), range(2), range(0), object(), int, tuple, len,
        Ellipsis, NotImplemented, ValueError(0), iter([2, 2]), round_list(), SaysEqual(), SaysError(),
        deep_tuple(), (SaysEqual(),), (SaysError(),), (None,), ("0",), ((0,),), ([0],), (True,), (False,),
        (SaysEqual(), SaysEqual()), (SaysError(), SaysError()), ({}, {}),
    ]


def add_places(rounds, x, y):
    """The sum by the words of the document, not by the program."""
    return tuple((k + m) % n for k, m, n in zip(x, y, rounds))


def all_tuples(rounds):
    """All elements, made otherwise than the program makes them."""
    if not rounds:
        return [()]
    return [(k,) + rest for k in range(rounds[0]) for rest in all_tuples(rounds[1:])]


def all_rounds(most):
    """Every tuple of rounds whose product is at most the bound."""
    found = [()]
    begun = [((), 1)]
    while begun:
        rounds, size = begun.pop()
        for n in range(2, most // size + 1):
            found.append(rounds + (n,))
            begun.append((rounds + (n,), size * n))
    return found


def walk_three(lower, upper, carries):
    """All triples that break the rule for three, by rounds alone."""
    members = all_tuples(upper)
    return [
        (x, y, z)
        for x in members for y in members for z in members
        if add_places(lower, carries[(x, y)], carries[(add_places(upper, x, y), z)])
        != add_places(lower, carries[(y, z)], carries[(x, add_places(upper, y, z))])
    ]


def walk_two(upper, carries):
    """All pairs whose carries are not even."""
    members = all_tuples(upper)
    return [(x, y) for x in members for y in members if carries[(x, y)] != carries[(y, x)]]


def any_carries(lower, upper, seed):
    """Carries without any rule."""
    chance = Random(seed)
    below, members = all_tuples(lower), all_tuples(upper)
    return {(x, y): chance.choice(below) for x in members for y in members}


class Model:
    """A group walked by the words of the document: all tuples, or all pairs over another one, by carries."""

    def __init__(self, upper, lower=None, carries=None):
        self.upper, self.lower, self.carries = upper, lower, carries
        above = all_tuples(upper)
        self.members = above if lower is None else sorted((a, x) for a in lower.members for x in above)
        self.sums = {(p, q): self.reckoned(p, q) for p in self.members for q in self.members}
        self.nought, = [e for e in self.members
                        if all(self.sums[(e, p)] == p == self.sums[(p, e)] for p in self.members)]
        self.backs = {p: q for p, q in self.sums if self.sums[(p, q)] == self.nought}

    def reckoned(self, p, q):
        if self.lower is None:
            return add_places(self.upper, p, q)
        (a, x), (b, y) = p, q
        return (self.lower.total([a, b, self.carries[(x, y)]]), add_places(self.upper, x, y))

    def total(self, some):
        reached = self.nought
        for p in some:
            reached = self.sums[(reached, p)]
        return reached

    def order(self, p):
        n, reached = 1, p
        while reached != self.nought:
            n, reached = n + 1, self.sums[(reached, p)]
        return n

    def spec(self):
        """Both groups and all carries, down to the ground."""
        if self.lower is None:
            return self.upper
        return (self.upper, self.lower.spec(), sorted(self.carries.items()))

    def is_even(self):
        return all(self.sums[(p, q)] == self.sums[(q, p)] for p, q in self.sums)

    def table(self):
        """The program's table below the program's tower, made anew down to the ground."""
        return Table(self.lower.group(), Rounds(self.upper), dict(self.carries))

    def group(self):
        """The program's own group, made anew down to the ground."""
        return Rounds(self.upper) if self.lower is None else Tower(self.table())


def any_over(lower, upper, seed):
    """Carries into a model without any rule."""
    chance = Random(seed)
    return {(x, y): chance.choice(lower.members) for x in all_tuples(upper) for y in all_tuples(upper)}


def own_carries(lower, upper, h):
    """The carries of a relabeling's own table."""
    members = all_tuples(upper)
    return {(x, y): lower.total([h[x], h[y], lower.backs[h[add_places(upper, x, y)]]]) for x in members for y in members}


def any_labels(lower, upper, seed):
    """A relabeling."""
    chance = Random(seed)
    return {x: chance.choice(lower.members) for x in all_tuples(upper)}


def ruled_over(lower, upper, seed):
    """Even carries that keep the rule for three: a carry by columns and a relabeling's own table."""
    chance = Random(seed)
    columns = [chance.choice(lower.members) for _ in upper]
    carries = own_carries(lower, upper, any_labels(lower, upper, seed))
    for x, y in carries:
        full = [column for column, k, m, n in zip(columns, x, y, upper) if k + m >= n]
        carries[(x, y)] = lower.total([carries[(x, y)]] + full)
    return carries


def paired_over(lower, upper, a, seed):
    """Carries that keep the rule for three, but are not even: x_0 * y_1 times a, and even ones."""
    carries = ruled_over(lower, upper, seed)
    return {(x, y): lower.total([carries[(x, y)]] + [a] * (x[0] * y[1])) for x, y in carries}


def ruled_carries(lower, upper, seed):
    """Even carries over two groups by rounds that keep the rule for three."""
    return ruled_over(Model(lower), upper, seed)


class Build:
    """Carries over two groups by rounds that keep the rule for three, put together of columns, odds and labels."""

    def __init__(self, lower, upper, columns, odd_ones, labels):
        self.lower, self.upper, self.columns, self.odd_ones = lower, upper, columns, odd_ones
        model = Model(lower)
        self.carries = own_carries(model, upper, labels)
        for x, y in self.carries:
            parts = [c for c, k, m, n in zip(columns, x, y, upper) if k + m >= n]
            for (i, j), a in odd_ones.items():
                parts += [a] * (x[i] * y[j])
            self.carries[(x, y)] = model.total([self.carries[(x, y)]] + parts)

    def kind(self):
        """Labels come and go around a round, so that only rests of the columns are left."""
        rests = tuple(rest_of(self.lower, n, c) for n, c in zip(self.upper, self.columns))
        return (rests, tuple(self.odd_ones[key] for key in sorted(self.odd_ones)))

    def table(self):
        return Table(Rounds(self.lower), Rounds(self.upper), dict(self.carries))


def rest_of(rounds, n, a):
    """The rest of an element but for n times, place by place."""
    return tuple(k % gcd(m, n) for k, m in zip(a, rounds))


def many_times(rounds, n, a):
    """An element taken n times."""
    return tuple(k * n % m for k, m in zip(a, rounds))


def two_rounds(upper):
    return [(i, j) for j in range(len(upper)) for i in range(j)]


def odds_for(lower, upper, i, j):
    """The elements that both rounds take to the nought."""
    nought = (0,) * len(lower)
    return [a for a in all_tuples(lower) if all(many_times(lower, upper[k], a) == nought for k in (i, j))]


def head(upper, i):
    return tuple(1 if at == i else 0 for at in range(len(upper)))


def weighed(lower, upper, carries, i):
    """The sum of carry(k e, e), added up one by one."""
    e, reached = head(upper, i), (0,) * len(upper)
    whole = (0,) * len(lower)
    for _ in range(upper[i]):
        whole = add_places(lower, whole, carries[(reached, e)])
        reached = add_places(upper, reached, e)
    return whole


def less(rounds, a, b):
    return tuple((k - m) % n for k, m, n in zip(a, b, rounds))


def walked_kind(lower, upper, carries):
    """The kind of carries, by the words of the document."""
    rests = tuple(rest_of(lower, n, weighed(lower, upper, carries, i)) for i, n in enumerate(upper))
    heads = [head(upper, i) for i in range(len(upper))]
    pairs = sorted(two_rounds(upper))
    return (rests, tuple(less(lower, carries[(heads[i], heads[j])], carries[(heads[j], heads[i])]) for i, j in pairs))


def images_for(source, goal):
    """For each round of the source the elements of the goal that it takes to the nought."""
    nought = (0,) * len(goal)
    return [[a for a in all_tuples(goal) if many_times(goal, n, a) == nought] for n in source]


def any_images(source, goal, seed):
    chance = Random(seed)
    return [chance.choice(row) for row in images_for(source, goal)]


def led_by(goal, images, x):
    """Where images of the heads lead an element."""
    reached = (0,) * len(goal)
    for k, image in zip(x, images):
        reached = add_places(goal, reached, many_times(goal, k, image))
    return reached


def any_build(lower, upper, seed, bare=False):
    """A build of any parts, or of columns and odds alone."""
    chance, below = Random(seed), all_tuples(lower)
    columns = [chance.choice(below) for _ in upper]
    odd_ones = {(i, j): chance.choice(odds_for(lower, upper, i, j)) for i, j in two_rounds(upper)}
    labels = {x: (0,) * len(lower) if bare else chance.choice(below) for x in all_tuples(upper)}
    return Build(lower, upper, columns, odd_ones, labels)


def rebuilt(build, seed):
    """A build of the same kind, but of other labels, and of columns that differ by so many times as the round tells."""
    chance, below = Random(seed), all_tuples(build.lower)
    columns = [add_places(build.lower, c, many_times(build.lower, n, chance.choice(below)))
               for c, n in zip(build.columns, build.upper)]
    return Build(build.lower, build.upper, columns, build.odd_ones, {x: chance.choice(below) for x in all_tuples(build.upper)})


SHAPES = [
    ((), ()), ((3,), ()), ((2, 2), ()), ((), (3,)), ((), (2, 2)), ((2,), (2,)), ((4,), (2,)), ((2,), (4,)), ((3,), (2,)),
    ((6,), (4,)), ((6,), (6,)), ((12,), (8,)), ((16,), (9,)), ((9,), (9,)), ((2, 4), (4,)), ((4, 2), (6,)),
    ((2,), (2, 2)), ((4,), (2, 4)), ((4,), (4, 2)), ((8,), (2, 4)), ((3,), (3, 3)), ((9,), (3, 3)), ((3, 3), (3, 3)),
    ((2, 2), (2, 2)), ((2, 3), (2, 3)), ((6,), (3, 2)), ((2, 8), (2, 4)), ((16,), (2, 2, 2)), ((2,), (2, 2, 2)),
    ((2, 2), (2, 2, 2)), ((4, 4), (2, 2, 2)), ((2, 2, 2, 2), (2, 2, 2)), ((12,), (2, 4)), ((5,), (2, 2)),
]


def walk_three_over(lower, upper, carries):
    """All triples that break the rule for three, over a model."""
    members = all_tuples(upper)
    sums = {(x, y): add_places(upper, x, y) for x in members for y in members}
    return [
        (x, y, z)
        for x in members for y in members for z in members
        if lower.sums[(carries[(x, y)], carries[(sums[(x, y)], z)])]
        != lower.sums[(carries[(y, z)], carries[(x, sums[(y, z)])])]
    ]


def stack(ground, uppers, seed=0):
    """Floors of even carries, one upon the other."""
    reached = Model(ground)
    for upper in uppers:
        reached = Model(upper, reached, ruled_over(reached, upper, seed))
    return reached


@cache
def even_towers():
    """Models of towers in which adding goes by any order: over rounds, and over one another up to eight floors."""
    return [
        stack((), [()]), stack((3,), [()]), stack((), [(3,)]), stack((2,), [(2,)], 1), stack((2,), [(2,)], 2),
        stack((4,), [(2, 2)], 1), stack((2, 2), [(4,)], 2), stack((3,), [(2,)], 3), stack((5,), [(3, 3)], 4),
        stack((2,), [(2,), (2,)], 1), stack((2,), [(2,), (2,)], 3), stack((3,), [(3,), (4,)], 2),
        stack((2,), [(), (3,), (), (2, 2)], 5), stack((2,), [(2,), (2,), (2,), (3,)], 6),
        stack((2,), [(2,), (), (2,), (), (), (), (), (2,)], 7),
    ]


@cache
def great_towers():
    """Models of towers of as many elements as there may be, or nearly so."""
    return [
        stack((16,), [(9,)], 1), stack((4, 4), [(3, 3)], 2), stack((2, 8), [(2, 4)], 3), stack((15,), [(9,)], 4),
        stack((2,), [(2,), (2,), (2,), (2, 2, 2)], 5), stack((2,), [(2,), (), (2,), (), (2,), (), (), (9,)], 6),
    ]


def paired(lower, upper, a, seed):
    """A model of an uneven tower."""
    return Model(upper, lower, paired_over(lower, upper, a, seed))


@cache
def uneven_towers():
    """Models of towers in which adding doesn't go by any order."""
    two, high = stack((2,), [(2,)], 1), stack((2,), [(2,), (2,)], 3)
    return [
        paired(Model((2,)), (2, 2), (1,), 0), paired(Model((2,)), (2, 2), (1,), 3),
        paired(Model((4,)), (2, 4), (2,), 1), paired(Model((3,)), (3, 3), (1,), 2),
        paired(two, (2, 2), [a for a in two.members if two.order(a) == 2][0], 4),
        paired(high, (2, 2, 2), [a for a in high.members if high.order(a) == 2][-1], 5),
    ]
