"""The lines that a desk is told: their forms, and what their words tell."""

from carrytower.errors import NoCount, NoLine, NoName, NoText
from carrytower.tables import need_lower, need_upper
from carrytower.texts import FIGURES, read_element, read_rounds

LETTERS = "abcdefghijklmnopqrstuvwxyz"
MOST_LETTERS = 8
MOST_FIGURES = 9
# For each first word what the words behind it are; behind those of plain come elements.
FORMS = {
    "plain": ("NEW", "LOWER", "UPPER"),
    "pair": ("NEW", "LOWER", "UPPER", "I", "J", "ELEMENT"),
    "sum": ("NEW", "OLD", "OLD"),
    "often": ("NEW", "OLD", "N"),
    "about": ("NEW", "OLD"),
    "change": ("NEW", "OLD", "X", "ELEMENT"),
    "put": ("NEW", "OLD", "X", "Y", "ELEMENT"),
    "drop": ("OLD",),
    "undo": (),
    "carry": ("OLD", "X", "Y"),
    "judge": ("OLD",),
    "kind": ("OLD",),
    "same": ("OLD", "OLD"),
    "rounds": ("OLD",),
    "order": ("OLD", "ELEMENT", "X"),
    "kinds": ("LOWER", "UPPER"),
}


def is_name(word):
    """Whether the word may be a name."""
    return 1 <= len(word) <= MOST_LETTERS and all([sign in LETTERS for sign in word])


def is_figure(word):
    """Whether the word is one figure."""
    return len(word) == 1 and word in FIGURES


def is_many(word):
    """Whether the word is a whole number written in the one way that is read."""
    figures = word[1:] if word.startswith("-") else word
    if not 1 <= len(figures) <= MOST_FIGURES or not all([sign in FIGURES for sign in figures]):
        return False
    return word == "0" or figures[0] != "0"


def is_written(part, word):
    """Whether the word is written as this part of a line is; texts are read only later."""
    if part in ("NEW", "OLD"):
        return is_name(word)
    if part in ("I", "J"):
        return is_figure(word)
    return part != "N" or is_many(word)


def form_of(words):
    """What each word behind the first one is."""
    form = FORMS.get(words[0])
    if form is None:
        raise NoLine()
    if words[0] == "plain":
        form = form + ("ELEMENT",) * (len(words) - 1 - len(form))
    if len(words) - 1 != len(form) or not all([is_written(part, word) for part, word in zip(form, words[1:])]):
        raise NoLine()
    return form


def kept_table(tables, name):
    """The table that is kept by the name."""
    if name not in tables:
        raise NoName(name)
    return tables[name]


def read_word(part, word, lower, upper):
    """What a word tells, over these two groups, that is no OLD."""
    if part in ("LOWER", "UPPER"):
        return read_rounds(word)
    if part == "ELEMENT":
        return read_element(lower, word)
    if part in ("X", "Y"):
        return read_element(upper, word)
    return word if part == "NEW" else int(word)


def read_at(part, words, at, lower, upper):
    """What the word of this number tells."""
    try:
        return read_word(part, words[at], lower, upper)
    except NoText:
        # A text knows nothing of the line that it stands in.
        raise NoText(at) from None


def need_groups(words, lower, upper):
    """Refuse groups of a new table, and another number of a plain one's elements, ahead of any element."""
    need_lower(lower)
    need_upper(upper)
    if words[0] == "plain" and len(words) - 1 - len(FORMS["plain"]) != len(upper.rounds):
        raise NoCount()


def read_line(tables, words):
    """What the words behind the first one tell, read from the left."""
    things = []
    lower = upper = None
    for at, part in enumerate(form_of(words), start=1):
        if part == "OLD":
            thing = kept_table(tables, words[at])
            lower, upper = thing.lower, thing.upper
        else:
            thing = read_at(part, words, at, lower, upper)
        if part == "LOWER":
            lower = thing
        if part == "UPPER":
            upper = thing
            need_groups(words, lower, upper)
        things.append(thing)
    return things
