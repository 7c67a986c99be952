"""Towers: an upper group laid upon a lower one by a table's carries."""

from carrytower.groups import Group
from carrytower.tables import alike, break_of_two, need_three


def sums_within(group):
    """For each element a dict from each one to the sum of both."""
    members = group.members()
    return {a: {b: group.sum_of(a, b) for b in members} for a in members}


class Tower(Group):
    """The group of all pairs of a lower and an upper element, added with the table's carries."""

    def __init__(self, table):
        need_three(table)
        self.table = table
        # Each sum asks for two sums below: unkept, they would double with every floor.
        self.below = sums_within(table.lower)

    def members(self):
        """All elements, as a new sorted list."""
        above = self.table.upper.members()
        return [(a, x) for a in self.table.lower.members() for x in above]

    def has(self, thing):
        """Whether any thing is an element."""
        if not isinstance(thing, tuple) or len(thing) != 2:
            return False
        return self.table.lower.has(thing[0]) and self.table.upper.has(thing[1])

    def nought(self):
        """The element that leaves each one as it is."""
        return self.lying(self.table.lower.nought())

    def like(self, other):
        """Whether the other one is a tower of an alike table."""
        return isinstance(other, Tower) and alike(self.table, other.table)

    def is_even(self):
        """Whether adding goes by any order: just where the table is even."""
        return break_of_two(self.table) is None

    def sum_of(self, one, other):
        """The sum of what surely are elements."""
        a, x = one
        b, y = other
        whole = self.below[self.below[a][b]][self.table.carry_of(x, y)]
        return (whole, self.table.upper.sum_of(x, y))

    def back_of(self, one):
        """The back of what surely is an element."""
        a, x = one
        away = self.table.upper.back_of(x)
        whole = self.below[self.below[a][self.table.carry_of(x, away)]][self.table.first_carry()]
        # Below adding goes by any order, so one back of the sum does for the sum of three backs.
        return (self.table.lower.back_of(whole), away)

    def lying(self, a):
        """The element as which one of the lower group lies in the tower."""
        lower = self.table.lower
        lower.need(a)
        return (self.below[a][lower.back_of(self.table.first_carry())], self.table.upper.nought())

    def over(self, x):
        """All elements that lie over one of the upper group, as a new sorted list."""
        self.table.upper.need(x)
        return [(a, x) for a in self.table.lower.members()]
