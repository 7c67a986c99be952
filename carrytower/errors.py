"""All refusals. Each stands straight under CarryError, so that taking one never takes another."""


class CarryError(ValueError):
    """Any refusal."""


class NoRounds(CarryError):
    """What should be rounds is none."""


class NoElement(CarryError):
    """What should be an element of a group is none."""


class NoLower(CarryError):
    """The lower group may not be one."""


class NoUpper(CarryError):
    """The upper group may not be one."""


class NoHead(CarryError):
    """There is no round of this number."""


class NotLike(CarryError):
    """Two groups that should be like are not."""


class NoCount(CarryError):
    """There are more or fewer things than rounds."""


class NoPair(CarryError):
    """The element makes no pair table of the two rounds."""


class NoKind(CarryError):
    """What should be a kind of the two groups is none."""


class NoLine(CarryError):
    """The desk knows no line of this form."""


class NothingDone(CarryError):
    """Nothing is left to be undone."""


class NoText(CarryError):
    """A text can't be read; at tells which one."""

    def __init__(self, at):
        self.at = at


class NoCarry(CarryError):
    """For x and y there is no carry."""

    def __init__(self, x, y):
        self.x = x
        self.y = y


class NoTower(CarryError):
    """The rule for three is broken; three tells where first."""

    def __init__(self, three):
        self.three = three


class Uneven(CarryError):
    """Adding doesn't go by any order; two tells where first."""

    def __init__(self, two):
        self.two = two


class NoRelabeling(CarryError):
    """For x the relabeling tells no element."""

    def __init__(self, x):
        self.x = x


class TooMany(CarryError):
    """There are too many kinds to be told; many is their number."""

    def __init__(self, many):
        self.many = many


class NoMap(CarryError):
    """The images make no map; head tells at which round first."""

    def __init__(self, head):
        self.head = head


class NoName(CarryError):
    """By this name no table is kept."""

    def __init__(self, name):
        self.name = name
