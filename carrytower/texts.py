"""Rounds and elements, written and read."""

from carrytower.errors import NoText
from carrytower.groups import Rounds, are_rounds

FIGURES = "0123456789"
MOST_FIGURES = 3
NO_ROUNDS = "1"
NO_NUMBERS = "-"


def rounds_text(group):
    """The text of a group's rounds."""
    return "x".join([str(n) for n in group.rounds]) or NO_ROUNDS


def element_text(x):
    """The text of an element of a group by rounds."""
    return ",".join([str(k) for k in x]) or NO_NUMBERS


def read_rounds(text):
    """The group by the rounds that the text tells."""
    if text == NO_ROUNDS:
        return Rounds(())
    rounds = read_numbers(text, "x")
    if not are_rounds(rounds):
        raise NoText(0)
    return Rounds(rounds)


def read_element(group, text):
    """The element of a group by rounds that the text tells."""
    x = () if text == NO_NUMBERS else read_numbers(text, ",")
    if not group.has(x):
        raise NoText(0)
    return x


def read_numbers(text, between):
    """The numbers of a text that has a sign between each two of them."""
    parts = text.split(between)
    if not all([is_number(part) for part in parts]):
        raise NoText(0)
    return tuple([int(part) for part in parts])


def is_number(text):
    """Whether the text is a number written in the one way that is read."""
    if not 1 <= len(text) <= MOST_FIGURES:
        return False
    # Asked sign by sign, since int would also read blanks and signs ahead.
    if not all([sign in FIGURES for sign in text]):
        return False
    return text == "0" or text[0] != "0"
