"""Relabelings: tables changed without changing their towers but for the numbers."""

from carrytower.errors import NoRelabeling
from carrytower.tables import Table, need_lower, need_upper, pairs_of
from carrytower.towers import Tower
from carrytower.weighings import weighing


def labels_of(lower, upper, h):
    """A dict of its own with the labels of all elements of the upper group and nothing else."""
    labels = {}
    for x in upper.members():
        label = h.get(x)
        # None, which stands for what is not there, is no element of any group.
        if not lower.has(label):
            raise NoRelabeling(x)
        labels[x] = label
    return labels


def own_carries(lower, upper, labels):
    """The carries of the relabeling's own table."""
    carries = {}
    for x, y in pairs_of(upper):
        away = lower.back_of(labels[upper.sum_of(x, y)])
        carries[(x, y)] = lower.sum_of(lower.sum_of(labels[x], labels[y]), away)
    return carries


def table_by(lower, upper, h):
    """The relabeling's own table."""
    need_lower(lower)
    need_upper(upper)
    return Table(lower, upper, own_carries(lower, upper, labels_of(lower, upper, h)))


def changed(table, h):
    """The table changed by the relabeling."""
    lower, upper = table.lower, table.upper
    own = own_carries(lower, upper, labels_of(lower, upper, h))
    return Table(lower, upper, {(x, y): lower.sum_of(table.carry_of(x, y), own[(x, y)]) for x, y in pairs_of(upper)})


def renumbering(table, h):
    """The dict that leads the table's tower to that of the changed table."""
    tower = Tower(table)
    lower = table.lower
    labels = labels_of(lower, table.upper, h)
    backs = {x: lower.back_of(labels[x]) for x in labels}
    return {(a, x): (lower.sum_of(a, backs[x]), x) for a, x in tower.members()}


def is_level(table):
    """Whether the carry of the nought and itself is the nought."""
    return table.first_carry() == table.lower.nought()


def levelled(table):
    """The table made level, and the relabeling that does it."""
    away = table.lower.back_of(table.first_carry())
    h = {x: away for x in table.upper.members()}
    return (changed(table, h), h)


def part_of(group, n, a):
    """An element that taken n times is a; there must be one."""
    return [b for b in group.members() if group.times(n, b) == a][0]


def emptying(table):
    """A relabeling by which a table of the kind nought, once changed, carries nothing."""
    lower, upper = table.lower, table.upper
    h = {upper.nought(): lower.back_of(table.first_carry())}
    for i, e in enumerate(upper.heads()):
        step = part_of(lower, upper.rounds[i], lower.back_of(weighing(table, i)))
        # The elements labelled so far are led on by the head, once around its round.
        front = list(h)
        for k in range(1, upper.rounds[i]):
            for x in front:
                h[upper.sum_of(x, e)] = lower.total([h[x], step, table.carry_of(x, e)])
            front = [upper.sum_of(x, e) for x in front]
    return h
