"""The desk: tables kept by names, and lines that make them and ask for them."""

from carrytower.errors import NothingDone
from carrytower.groups import Rounds
from carrytower.kinds import how_many
from carrytower.lines import read_line
from carrytower.plainest import plainest
from carrytower.relabels import changed
from carrytower.sameness import SAME, compared
from carrytower.sums import about, both, often, pair_table, plain_table
from carrytower.tables import Table, break_of_three, break_of_two
from carrytower.texts import element_text, rounds_text
from carrytower.towers import Tower
from carrytower.weighings import kind_of, parts_of

DONE = "done"


def in_words(word, some):
    """A word, and behind it the texts of some elements."""
    return " ".join([word] + [element_text(x) for x in some])


def make_plain(things):
    """A plain table."""
    return plain_table(things[0], things[1], things[2:])


def make_pair(things):
    """A pair table."""
    lower, upper, i, j, a = things
    return pair_table(lower, upper, i, j, a)


def make_sum(things):
    """The sum of two tables."""
    one, other = things
    return both(one, other)


def make_often(things):
    """A table taken n times."""
    table, n = things
    return often(table, n)


def make_about(things):
    """A table turned about."""
    return about(things[0])


def make_change(things):
    """A table changed by a relabeling that has the nought for all elements but one."""
    table, x, a = things
    h = {y: table.lower.nought() for y in table.upper.members()}
    h[x] = a
    return changed(table, h)


def make_put(things):
    """A table with another carry at one place."""
    table, x, y, a = things
    carries = table.carries()
    carries[(x, y)] = a
    return Table(table.lower, table.upper, carries)


def tell_carry(things):
    """What two elements carry."""
    table, x, y = things
    return element_text(table.carry(x, y))


def tell_judge(things):
    """The break of the rule for three, else that of two, else that there is none."""
    three = break_of_three(things[0])
    if three is not None:
        return in_words("three", three)
    two = break_of_two(things[0])
    if two is not None:
        return in_words("two", two)
    return "even"


def tell_kind(things):
    """All rests and odds of a table."""
    return in_words("kind", parts_of(kind_of(things[0])))


def tell_same(things):
    """Whether two tables are the same, or where they are apart."""
    one, other = things
    word, paper = compared(one, other)
    if word == SAME:
        return SAME
    # A paper's last two things are the two elements that are unlike.
    return " ".join([word] + [str(k) for k in paper[:-2]])


def tell_rounds(things):
    """The plainest rounds of a table's tower."""
    return rounds_text(Rounds(plainest(Tower(things[0]))[0]))


def tell_order(things):
    """The order of an element of a table's tower."""
    table, a, x = things
    return str(Tower(table).order((a, x)))


def tell_kinds(things):
    """The number of kinds of two groups."""
    lower, upper = things
    return str(how_many(lower, upper))


MAKERS = {
    "plain": make_plain, "pair": make_pair, "sum": make_sum, "often": make_often, "about": make_about,
    "change": make_change, "put": make_put,
}
TELLERS = {
    "carry": tell_carry, "judge": tell_judge, "kind": tell_kind, "same": tell_same, "rounds": tell_rounds,
    "order": tell_order, "kinds": tell_kinds,
}


class Desk:
    """Keeps tables by names, and what each change took away."""

    def __init__(self):
        self.tables = {}
        self.past = []

    def told(self, line):
        """The answer to a line."""
        words = line.split(" ")
        things = read_line(self.tables, words)
        if words[0] in TELLERS:
            tell = TELLERS[words[0]]
            return tell(things)
        if words[0] == "undo":
            self.go_back()
        elif words[0] == "drop":
            self.keep(words[1], None)
        else:
            make = MAKERS[words[0]]
            self.keep(words[1], make(things[1:]))
        return DONE

    def keep(self, name, table):
        """Keep a table by the name, or none, so that it can be undone."""
        self.past.append((name, self.tables.get(name)))
        self.lay(name, table)

    def go_back(self):
        """Undo the last change that is not undone yet."""
        if not self.past:
            raise NothingDone()
        name, table = self.past.pop()
        self.lay(name, table)

    def lay(self, name, table):
        """Have a table by the name, or none."""
        if table is None:
            self.tables.pop(name)
        else:
            self.tables[name] = table
