"""The plainest telling of a group: rounds of which each divides the next one."""

from carrytower.errors import Uneven
from carrytower.tables import break_of_two


def plainest(group):
    """The plainest rounds, the renumbering to their group, and the one that leads back."""
    if not group.is_even():
        raise Uneven(break_of_two(group.table))
    rounds = ()
    there = {group.nought(): ()}
    while len(there) < group.size():
        steps = farthest_steps(group, there)
        # Greater orders are found first, so each one goes ahead of those that it divides.
        rounds = (len(steps),) + rounds
        there = widened(group, there, steps)
    return (rounds, there, {there[x]: x for x in there})


def steps_of(group, x):
    """All times of x, each once, from the nought on."""
    found = [group.nought()]
    reached = x
    while reached != found[0]:
        found.append(reached)
        reached = group.sum_of(reached, x)
    return found


def farthest_steps(group, there):
    """The times of an element of greatest order that but for the nought are not numbered yet."""
    farthest = []
    for x in group.members():
        steps = steps_of(group, x)
        if len(steps) > len(farthest) and not any([step in there for step in steps[1:]]):
            farthest = steps
    return farthest


def widened(group, there, steps):
    """The numbering with a place more, put ahead of the others, that counts the steps."""
    wider = {}
    for k, step in enumerate(steps):
        for x in there:
            wider[group.sum_of(step, x)] = (k,) + there[x]
    return wider
