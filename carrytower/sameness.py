"""Whether two tables make the same tower, and what shows it."""

from carrytower.errors import NoRelabeling
from carrytower.groups import is_whole
from carrytower.relabels import changed, emptying
from carrytower.sums import both, often
from carrytower.tables import alike, need_over_like
from carrytower.weighings import kind_of, parts_of, places_of

SAME = "same"
APART = "apart"


def papers_of(one, other):
    """All papers that show two tables apart, the first one first; none where they are the same."""
    need_over_like(one, other)
    parts, others = parts_of(kind_of(one)), parts_of(kind_of(other))
    return [place + (a, b) for place, a, b in zip(places_of(one.upper), parts, others) if a != b]


def compared(one, other):
    """What shows two tables the same or apart."""
    papers = papers_of(one, other)
    if papers:
        return (APART, papers[0])
    return (SAME, emptying(both(one, often(other, -1))))


def shows(one, other, thing):
    """Whether the thing shows two tables the same or apart."""
    papers = papers_of(one, other)
    if not isinstance(thing, tuple) or len(thing) != 2 or not isinstance(thing[0], str):
        return False
    word, paper = thing
    if word == SAME:
        return leads(one, other, paper)
    return word == APART and is_form_of_paper(one.lower, paper) and paper in papers


def leads(one, other, thing):
    """Whether the thing is a relabeling that changes the one table into the other."""
    if not isinstance(thing, dict):
        return False
    try:
        return alike(changed(one, thing), other)
    except NoRelabeling:
        return False


def is_form_of_paper(lower, thing):
    """Whether the thing is a text, whole numbers and two elements: Python would take a truth for a number."""
    if not isinstance(thing, tuple) or len(thing) < 3 or not isinstance(thing[0], str):
        return False
    return all([is_whole(i) for i in thing[1:-2]]) and all([lower.has(a) for a in thing[-2:]])
