"""Lifts: maps into a table's upper group, led on into its tower."""

from carrytower.maps import pulled
from carrytower.relabels import emptying
from carrytower.tables import need_three
from carrytower.weighings import kind_of, parts_of, places_of


def lift(table, way):
    """A lift of the map to the table's tower, or the first rest or odds that forbids it."""
    drawn = pulled(table, way)
    need_three(table)
    for place, part in zip(places_of(way.source), parts_of(kind_of(drawn))):
        if any(part):
            return ("none", place + (part,))
    # What empties the pulled table makes up for all that the tower carries.
    labels = emptying(drawn)
    return ("lift", {x: (labels[x], way.led(x)) for x in labels})
