"""Weighings and odds of a table's heads, and the kind that they tell."""

from carrytower.errors import NoHead
from carrytower.tables import need_three


def need_head(upper, i):
    """Refuse what is not the number of a round."""
    if not 0 <= i < len(upper.rounds):
        raise NoHead()


def weighing(table, i):
    """The sum of what the times of round i's head carry with the head."""
    upper = table.upper
    need_head(upper, i)
    e = upper.heads()[i]
    return table.lower.total([table.carry_of(upper.times(k, e), e) for k in range(upper.rounds[i])])


def odds(table, i, j):
    """What the heads of i and j carry, but for what they carry turned about."""
    need_head(table.upper, i)
    need_head(table.upper, j)
    heads = table.upper.heads()
    e, f = heads[i], heads[j]
    return table.lower.sum_of(table.carry_of(e, f), table.lower.back_of(table.carry_of(f, e)))


def greatest_shared(m, n):
    """The greatest whole number that divides both."""
    while n != 0:
        m, n = n, m % n
    return m


def rest_but_for(group, n, a):
    """What is left of an element of a group by rounds but for n times any element."""
    group.need(a)
    return tuple([k % greatest_shared(m, abs(n)) for k, m in zip(a, group.rounds)])


def pairs_of_rounds(upper):
    """The numbers of each two rounds, the lesser one first, rising."""
    many = len(upper.rounds)
    return [(i, j) for i in range(many) for j in range(i + 1, many)]


def kind_of(table):
    """The rests of all weighings, and the odds of each two rounds."""
    need_three(table)
    rests = [rest_but_for(table.lower, n, weighing(table, i)) for i, n in enumerate(table.upper.rounds)]
    return (tuple(rests), tuple([odds(table, i, j) for i, j in pairs_of_rounds(table.upper)]))


def parts_of(kind):
    """All rests and then all odds of a kind."""
    rests, beside = kind
    return rests + beside


def places_of(upper):
    """Where a kind's parts stand, one for each, as papers begin."""
    weighed = [("weighing", i) for i in range(len(upper.rounds))]
    return weighed + [("odds", i, j) for i, j in pairs_of_rounds(upper)]


def is_nought(kind):
    """Whether all numbers of a kind are 0."""
    return not any([any(part) for part in parts_of(kind)])
