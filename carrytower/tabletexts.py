"""Tables over groups by rounds, written as lists of texts and read."""

from carrytower.errors import NoText
from carrytower.tables import Table, need_lower, need_upper
from carrytower.texts import element_text, read_element, read_rounds, rounds_text


def table_text(table):
    """The texts of a table whose lower group is by rounds: both groups, then a row for each element."""
    members = table.upper.members()
    head = f"{rounds_text(table.lower)} {rounds_text(table.upper)}"
    return [head] + [" ".join([element_text(table.carry_of(x, y)) for y in members]) for x in members]


def read_table(rows):
    """The table that the texts tell."""
    lower, upper = read_groups(rows)
    need_lower(lower)
    need_upper(upper)
    members = upper.members()
    many = len(members)
    carries = {}
    for at, x in enumerate(members, start=1):
        for y, carried in zip(members, read_row(lower, many, rows, at)):
            carries[(x, y)] = carried
    if len(rows) > many + 1:
        raise NoText(many + 1)
    return Table(lower, upper, carries)


def read_groups(rows):
    """The two groups that the first text tells."""
    words = rows[0].split(" ") if rows else []
    if len(words) != 2:
        raise NoText(0)
    return (read_rounds(words[0]), read_rounds(words[1]))


def read_row(lower, many, rows, at):
    """So many elements, told by the text of this number."""
    words = rows[at].split(" ") if at < len(rows) else []
    if len(words) != many:
        raise NoText(at)
    try:
        return [read_element(lower, word) for word in words]
    except NoText:
        # An element's text knows nothing of the list that it stands in.
        raise NoText(at) from None
