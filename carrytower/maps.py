"""Maps between groups by rounds, and tables pulled and pushed along them."""

from carrytower.errors import NoMap, NotLike
from carrytower.tables import Table, need_lower, need_upper, pairs_of


def is_image(goal, n, thing):
    """Whether the thing is an element that taken n times is the nought."""
    return goal.has(thing) and goal.times(n, thing) == goal.nought()


def need_images(source, goal, images):
    """Refuse images that make no map."""
    for i, n in enumerate(source.rounds):
        if i >= len(images) or not is_image(goal, n, images[i]):
            raise NoMap(i)
    if len(images) > len(source.rounds):
        raise NoMap(len(source.rounds))


class Map:
    """A way from one group by rounds to another that leads sums to sums, told by where it leads the heads."""

    def __init__(self, source, goal, images):
        need_images(source, goal, images)
        self.source = source
        self.goal = goal
        self.images = tuple(images)

    def led(self, x):
        """The element to which x is led."""
        self.source.need(x)
        return self.goal.total([self.goal.times(k, image) for k, image in zip(x, self.images)])

    def behind(self, other):
        """The map that does the other one and then this one."""
        need_like(other.goal, self.source)
        return Map(other.source, self.goal, [self.led(image) for image in other.images])


def need_like(one, other):
    """Refuse two groups that are not like."""
    if not one.like(other):
        raise NotLike()


def pulled(table, way):
    """The table over the map's source: elements carry what those carry to which they are led."""
    need_like(way.goal, table.upper)
    need_upper(way.source)
    led = {x: way.led(x) for x in way.source.members()}
    carries = {(x, y): table.carry_of(led[x], led[y]) for x, y in pairs_of(way.source)}
    return Table(table.lower, way.source, carries)


def pushed(table, way):
    """The table over the map's goal: what was carried is led on."""
    need_like(way.source, table.lower)
    need_lower(way.goal)
    return Table(way.goal, table.upper, {(x, y): way.led(table.carry_of(x, y)) for x, y in pairs_of(table.upper)})
