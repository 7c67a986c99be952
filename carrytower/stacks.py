"""Towers on towers: how high they are, and tables upon them made flat."""

from carrytower.groups import Rounds
from carrytower.plainest import plainest
from carrytower.tables import Table, pairs_of
from carrytower.towers import Tower


def flat(table):
    """The table over the plainest rounds of its lower group, and the renumbering that leads there."""
    rounds, there, back = plainest(table.lower)
    carries = {(x, y): there[table.carry_of(x, y)] for x, y in pairs_of(table.upper)}
    return (Table(Rounds(rounds), table.upper, carries), there)


def floors(group):
    """How many tables lie upon one another in a group."""
    many = 0
    while isinstance(group, Tower):
        group = group.table.lower
        many += 1
    return many
