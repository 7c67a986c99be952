"""All kinds of towers over two groups by rounds, and the table of each."""

from carrytower.errors import NoKind, TooMany
from carrytower.groups import product
from carrytower.sums import both, is_let_in, pair_table, plain_table
from carrytower.tables import need_lower, need_upper
from carrytower.weighings import pairs_of_rounds, parts_of, rest_but_for

MOST_KINDS = 300


def rests_let_in(lower, n):
    """All rests that a weighing of round n can have, rising."""
    return [a for a in lower.members() if rest_but_for(lower, n, a) == a]


def odds_let_in(lower, upper, i, j):
    """All odds that the rounds i and j can have, rising."""
    return [a for a in lower.members() if is_let_in(lower, upper, i, j, a)]


def choices_of(lower, upper):
    """For each rest, and then for each odds, of a kind all elements that may stand there."""
    need_lower(lower)
    need_upper(upper)
    rests = [rests_let_in(lower, n) for n in upper.rounds]
    return rests + [odds_let_in(lower, upper, i, j) for i, j in pairs_of_rounds(upper)]


def how_many(lower, upper):
    """The number of kinds."""
    return product([len(choice) for choice in choices_of(lower, upper)])


def as_kind(upper, parts):
    """The kind of these rests and then odds."""
    many = len(upper.rounds)
    return (parts[:many], parts[many:])


def kinds_of(lower, upper):
    """All kinds, as a new rising list."""
    many = how_many(lower, upper)
    if many > MOST_KINDS:
        raise TooMany(many)
    found = [()]
    for choice in choices_of(lower, upper):
        found = [begun + (a,) for begun in found for a in choice]
    return [as_kind(upper, parts) for parts in found]


def is_form_of_kind(upper, thing):
    """Whether the thing is a pair of tuples with as many things as a kind has."""
    if not isinstance(thing, tuple) or not all([isinstance(row, tuple) for row in thing]):
        return False
    return [len(row) for row in thing] == [len(upper.rounds), len(pairs_of_rounds(upper))]


def need_kind(lower, upper, thing):
    """Refuse what is no kind of the two groups."""
    choices = choices_of(lower, upper)
    if not is_form_of_kind(upper, thing):
        raise NoKind()
    for part, choice in zip(parts_of(thing), choices):
        # Asked ahead of the choice, since Python takes a truth for a number.
        if not lower.has(part) or part not in choice:
            raise NoKind()


def table_of_kind(lower, upper, kind):
    """The sum of the plain table of the kind's rests and of the pair tables of its odds."""
    need_kind(lower, upper, kind)
    rests, beside = kind
    table = plain_table(lower, upper, rests)
    for (i, j), a in zip(pairs_of_rounds(upper), beside):
        table = both(table, pair_table(lower, upper, i, j, a))
    return table


def kind_sum(lower, upper, one, other):
    """The sum of two kinds."""
    need_kind(lower, upper, one)
    need_kind(lower, upper, other)
    parts = tuple([lower.sum_of(a, b) for a, b in zip(parts_of(one), parts_of(other))])
    rests, beside = as_kind(upper, parts)
    return (tuple([rest_but_for(lower, n, a) for n, a in zip(upper.rounds, rests)]), beside)
