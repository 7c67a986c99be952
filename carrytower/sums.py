"""Tables added and turned about, and the two sorts of tables of which all kinds are added up."""

from carrytower.errors import NoCount, NoHead, NoPair
from carrytower.tables import Table, need_lower, need_over_like, need_upper, pairs_of


def both(one, other):
    """The sum of two tables, over the first one's groups."""
    need_over_like(one, other)
    lower, upper = one.lower, one.upper
    return Table(lower, upper, {(x, y): lower.sum_of(one.carry_of(x, y), other.carry_of(x, y))
                                for x, y in pairs_of(upper)})


def often(table, n):
    """The table taken n times."""
    lower, upper = table.lower, table.upper
    return Table(lower, upper, {(x, y): lower.times(n, table.carry_of(x, y)) for x, y in pairs_of(upper)})


def about(table):
    """The table turned about."""
    return Table(table.lower, table.upper, {(x, y): table.carry_of(y, x) for x, y in pairs_of(table.upper)})


def plain_table(lower, upper, carried):
    """The table that carries the round's element wherever a round is come to."""
    need_lower(lower)
    need_upper(upper)
    if len(carried) != len(upper.rounds):
        raise NoCount()
    for c in carried:
        lower.need(c)
    return Table(lower, upper, {(x, y): lower.total(full_ones(upper, x, y, carried)) for x, y in pairs_of(upper)})


def full_ones(upper, x, y, carried):
    """The elements of those rounds to which the numbers of x and y come."""
    return [c for k, m, n, c in zip(x, y, upper.rounds, carried) if k + m >= n]


def pair_table(lower, upper, i, j, a):
    """The table that carries a as many times as x's number at i and y's number at j, multiplied, tell."""
    need_lower(lower)
    need_upper(upper)
    if not 0 <= i < j < len(upper.rounds):
        raise NoHead()
    lower.need(a)
    if not is_let_in(lower, upper, i, j, a):
        raise NoPair()
    return Table(lower, upper, {(x, y): lower.times(x[i] * y[j], a) for x, y in pairs_of(upper)})


def is_let_in(lower, upper, i, j, a):
    """Whether a, taken as many times as round i, and as many as round j, is the nought."""
    return all([lower.times(upper.rounds[at], a) == lower.nought() for at in (i, j)])
