"""Groups: what all of them can do, and the groups by rounds."""

from carrytower.errors import NoElement, NoRounds

LEAST_ROUND = 2
MOST_MEMBERS = 144
LEFT_OPEN = "each sort of group tells this for itself"


def is_whole(thing):
    """Whether the thing is a whole number: a truth is an int to Python, but none here."""
    return isinstance(thing, int) and not isinstance(thing, bool)


def product(numbers):
    """All numbers multiplied, 1 of none."""
    whole = 1
    for n in numbers:
        whole = whole * n
    return whole


def are_rounds(thing):
    """Whether the thing is a list or tuple of rounds."""
    if not isinstance(thing, (list, tuple)):
        return False
    if not all([is_whole(n) and n >= LEAST_ROUND for n in thing]):
        return False
    # Eight rounds come to 256 at the least, so the product bounds their number, too.
    return product(thing) <= MOST_MEMBERS


class Group:
    """The base of all groups, not made by itself."""

    def members(self):
        """All elements, as a new sorted list."""
        raise NotImplementedError(LEFT_OPEN)

    def has(self, thing):
        """Whether any thing is an element."""
        raise NotImplementedError(LEFT_OPEN)

    def nought(self):
        """The element that leaves each one as it is."""
        raise NotImplementedError(LEFT_OPEN)

    def like(self, other):
        """Whether the other group is the same but for being another object."""
        raise NotImplementedError(LEFT_OPEN)

    def is_even(self):
        """Whether adding goes by any order."""
        raise NotImplementedError(LEFT_OPEN)

    def sum_of(self, x, y):
        """The sum of what surely are elements."""
        raise NotImplementedError(LEFT_OPEN)

    def back_of(self, x):
        """The back of what surely is an element."""
        raise NotImplementedError(LEFT_OPEN)

    def need(self, thing):
        """Refuse what is no element."""
        if not self.has(thing):
            raise NoElement()

    def size(self):
        """How many elements there are."""
        return len(self.members())

    def added(self, x, y):
        """The sum of x and y."""
        self.need(x)
        self.need(y)
        return self.sum_of(x, y)

    def back(self, x):
        """The element that added to x gives the nought."""
        self.need(x)
        return self.back_of(x)

    def times(self, n, x):
        """The sum of n of x; for n below 0 of its back."""
        self.need(x)
        step = self.back_of(x) if n < 0 else x
        left = abs(n)
        whole = self.nought()
        # By doubling, since n may have sixty figures.
        while left > 0:
            if left % 2 == 1:
                whole = self.sum_of(whole, step)
            step = self.sum_of(step, step)
            left = left // 2
        return whole

    def order(self, x):
        """The least n from 1 on for which n times x is the nought."""
        self.need(x)
        nought = self.nought()
        reached = x
        n = 1
        while reached != nought:
            reached = self.sum_of(reached, x)
            n += 1
        return n

    def total(self, some):
        """The sum of a list of elements, the first one first."""
        whole = self.nought()
        for x in some:
            self.need(x)
            whole = self.sum_of(whole, x)
        return whole


class Rounds(Group):
    """The group by rounds: tuples of numbers, added place by place."""

    def __init__(self, rounds):
        if not are_rounds(rounds):
            raise NoRounds()
        self.rounds = tuple(rounds)

    def members(self):
        """All elements, as a new sorted list."""
        found = [()]
        for n in self.rounds:
            found = [begun + (k,) for begun in found for k in range(n)]
        return found

    def has(self, thing):
        """Whether any thing is an element."""
        if not isinstance(thing, tuple) or len(thing) != len(self.rounds):
            return False
        return all([is_whole(k) and 0 <= k < n for k, n in zip(thing, self.rounds)])

    def nought(self):
        """The element with 0 at all places."""
        return (0,) * len(self.rounds)

    def heads(self):
        """For each round the element with 1 at its place and 0 at all others."""
        many = len(self.rounds)
        return [tuple([1 if at == i else 0 for at in range(many)]) for i in range(many)]

    def like(self, other):
        """Whether the other one is a group by the same rounds in the same order."""
        return isinstance(other, Rounds) and self.rounds == other.rounds

    def is_even(self):
        """True: adding place by place goes by any order."""
        return True

    def sum_of(self, x, y):
        """The sum of what surely are elements."""
        return tuple([(k + m) % n for k, m, n in zip(x, y, self.rounds)])

    def back_of(self, x):
        """The back of what surely is an element."""
        return tuple([-k % n for k, n in zip(x, self.rounds)])
