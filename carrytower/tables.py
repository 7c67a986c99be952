"""Tables of carries, and where they break the rules."""

from carrytower.errors import NoCarry, NoLower, NoTower, NotLike, NoUpper
from carrytower.groups import Group, Rounds

MOST_LOWER = 16
MOST_UPPER = 9


def need_lower(lower):
    """Refuse what may not be a lower group."""
    # By rounds or a tower, the rule is one: adding must go by any order.
    if not isinstance(lower, Group) or not lower.is_even() or lower.size() > MOST_LOWER:
        raise NoLower()


def need_upper(upper):
    """Refuse what may not be an upper group."""
    if not isinstance(upper, Rounds) or upper.size() > MOST_UPPER:
        raise NoUpper()


def pairs_of(group):
    """All pairs of elements, rising."""
    members = group.members()
    return [(x, y) for x in members for y in members]


def picked_carries(lower, upper, carries):
    """A dict of its own with the carries of all pairs and nothing else."""
    picked = {}
    for x, y in pairs_of(upper):
        carried = carries.get((x, y))
        # None, which stands for what is not there, is no element of any group.
        if not lower.has(carried):
            raise NoCarry(x, y)
        picked[(x, y)] = carried
    return picked


class Table:
    """For each two elements of the upper group what is carried into the lower one."""

    def __init__(self, lower, upper, carries):
        need_lower(lower)
        need_upper(upper)
        self.lower = lower
        self.upper = upper
        self.kept = picked_carries(lower, upper, carries)

    def carry(self, x, y):
        """What x and y carry."""
        self.upper.need(x)
        self.upper.need(y)
        return self.carry_of(x, y)

    def carry_of(self, x, y):
        """What x and y carry, which surely are elements."""
        return self.kept[(x, y)]

    def first_carry(self):
        """What the upper group's nought and itself carry; this may be any element."""
        nought = self.upper.nought()
        return self.carry_of(nought, nought)

    def carries(self):
        """All carries, as a new dict."""
        return dict(self.kept)


def break_of_three(table):
    """The least (x, y, z) that breaks the rule for three, or None."""
    lower = table.lower
    carries = table.carries()
    members = table.upper.members()
    pairs = pairs_of(table.upper)
    sums = {(x, y): table.upper.sum_of(x, y) for x, y in pairs}
    for x, y in pairs:
        for z in members:
            one = lower.sum_of(carries[(x, y)], carries[(sums[(x, y)], z)])
            other = lower.sum_of(carries[(y, z)], carries[(x, sums[(y, z)])])
            if one != other:
                return (x, y, z)
    return None


def need_three(table):
    """Refuse a table that breaks the rule for three."""
    three = break_of_three(table)
    if three is not None:
        raise NoTower(three)


def break_of_two(table):
    """The least (x, y) whose carry changes when they are turned about, or None."""
    carries = table.carries()
    for x, y in pairs_of(table.upper):
        if carries[(x, y)] != carries[(y, x)]:
            return (x, y)
    return None


def over_like(one, other):
    """Whether two tables have like lower groups and like upper groups."""
    return one.lower.like(other.lower) and one.upper.like(other.upper)


def need_over_like(one, other):
    """Refuse two tables that are not over like groups."""
    if not over_like(one, other):
        raise NotLike()


def alike(one, other):
    """Whether two tables have like lower groups, like upper groups and the same carries."""
    return over_like(one, other) and one.carries() == other.carries()
