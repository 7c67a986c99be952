"""Points 2, 4, 5, 6: groups by rounds."""

import unittest

from carrytower.errors import NoElement, NoRounds
from carrytower.groups import Group, Rounds
from helper import add_places, all_tuples, odd_things, stack

GOOD = (
    (), (2,), (3,), (144,), (143,), (2, 2), (2, 3), (3, 2), (2, 4), (4, 2), (12, 12), (2, 72), (72, 2), (9, 16),
    (2, 3, 4), (3, 3, 16), (2, 2, 2, 18), (2, 2, 3, 3, 4), (2, 2, 2, 2, 3, 3), (2, 2, 2, 2, 2, 4),
    (2, 2, 2, 2, 2, 2, 2),
)
SMALL = ((), (2,), (5,), (6,), (2, 4), (4, 2), (2, 2, 3))
BAD = (
    (145,), (2, 73), (12, 13), (5, 29), (2, 2, 2, 2, 2, 5), (2, 2, 2, 2, 2, 2, 3), (2,) * 8, (2,) * 300, (3,) * 8,
    (1,), (0,), (-1,), (-2,), (-2, -3), (2, 1), (1, 2), (2, 0, 2), (0, 2), (2, -2), (2, 1, 2),
    (10 ** 29,), (-(10 ** 29),), (2, 10 ** 29), (10 ** 29, 2), (10 ** 59, 10 ** 59), (0, 10 ** 29),
    (True,), (False,), (2, True), (False, 2), ("2",), ("2", 2), (2, ""), (None,), (2, None), (None, 2),
    ((2,),), (2, (2,)), ((2, 3),), ((), 2), ([2],), (2, [2]), ({},), (2, {2}), (b"2",), (2, object()),
)
WHOLE = (0, 1, 2, 3, 7, 144, 145, 10 ** 59 + 7, 123456789012345678901234567890123456789012345678901234567890)


class Making(unittest.TestCase):
    """Point 4."""

    def refused(self, thing):
        with self.assertRaises(NoRounds):
            Rounds(thing)

    def test_good_rounds_as_list_and_tuple(self):
        for rounds in GOOD:
            for handed in (rounds, list(rounds)):
                group = Rounds(handed)
                self.assertIsInstance(group, Group)
                self.assertEqual(group.rounds, rounds)
                self.assertIs(type(group.rounds), tuple)
                self.assertEqual(handed, type(handed)(rounds))

    def test_every_single_round_and_pair_up_to_beyond_the_bound(self):
        for n in range(-3, 150):
            if 2 <= n <= 144:
                self.assertEqual(Rounds((n,)).size(), n)
            else:
                self.refused((n,))
            for m in (2, 3, 12):
                if n >= 2 and n * m <= 144:
                    self.assertEqual(Rounds([m, n]).size(), n * m)
                else:
                    self.refused([m, n])

    def test_bad_rounds_as_list_and_tuple(self):
        for rounds in BAD:
            self.refused(rounds)
            self.refused(list(rounds))

    def test_no_list_or_tuple_at_all(self):
        for thing in odd_things():
            self.refused(thing)

    def test_refused_lists_stay(self):
        handed = [2, 0, 3]
        self.refused(handed)
        self.assertEqual(handed, [2, 0, 3])

    def test_a_list_changed_behind_the_call_changes_nothing(self):
        handed = [2, 3]
        group = Rounds(handed)
        self.assertEqual(handed, [2, 3])
        handed[0] = 5
        handed.append(7)
        self.assertEqual(group.rounds, (2, 3))
        self.assertEqual(group.size(), 6)
        self.assertEqual(group.heads(), [(1, 0), (0, 1)])
        self.assertEqual(group.added((1, 2), (1, 2)), (0, 1))
        self.assertFalse(group.has((4, 0)))

    def test_members_are_all_sorted_and_new(self):
        for rounds in GOOD:
            group = Rounds(rounds)
            told = group.members()
            self.assertIs(type(told), list)
            self.assertEqual(told, all_tuples(rounds))
            self.assertEqual(told, sorted(told))
            self.assertEqual(group.size(), len(told))
            told.reverse()
            told.append("more")
            self.assertEqual(group.members(), all_tuples(rounds))
            self.assertEqual(group.size(), len(all_tuples(rounds)))

    def test_no_rounds(self):
        group = Rounds(())
        self.assertEqual((group.members(), group.size(), group.heads()), ([()], 1, []))

    def test_heads(self):
        self.assertEqual(Rounds((5,)).heads(), [(1,)])
        for rounds in GOOD:
            group = Rounds(rounds)
            told = group.heads()
            self.assertIs(type(told), list)
            wanted = [tuple(int(at == i) for at in range(len(rounds))) for i in range(len(rounds))]
            self.assertEqual(told, wanted)
            self.assertTrue(all(group.has(head) for head in told))
            told.append("more")
            self.assertEqual(group.heads(), wanted)


class Reckoning(unittest.TestCase):
    """Point 5: each question goes to a group made anew, so that it is the very first one."""

    def test_nought(self):
        for rounds in GOOD:
            nought = Rounds(rounds).nought()
            self.assertEqual(nought, (0,) * len(rounds))
            for x in all_tuples(rounds):
                self.assertEqual(Rounds(rounds).added(nought, x), x)
                self.assertEqual(Rounds(rounds).added(x, nought), x)

    def test_added_either_way_about(self):
        for rounds in SMALL + ((2, 2, 2, 2), (3, 9)):
            for x in all_tuples(rounds):
                for y in all_tuples(rounds):
                    self.assertEqual(Rounds(rounds).added(x, y), add_places(rounds, x, y))
        self.assertEqual(Rounds((144,)).added((143,), (143,)), (142,))

    def test_back(self):
        for rounds in GOOD:
            for x in all_tuples(rounds):
                back = Rounds(rounds).back(x)
                self.assertIn(back, all_tuples(rounds))
                self.assertEqual(add_places(rounds, x, back), (0,) * len(rounds))

    def test_times_of_either_sign(self):
        for rounds in SMALL + ((144,), (12, 12)):
            for x in all_tuples(rounds):
                for n in WHOLE:
                    for signed in (n, -n):
                        wanted = tuple(signed * k % m for k, m in zip(x, rounds))
                        self.assertEqual(Rounds(rounds).times(signed, x), wanted)

    def test_times_held_against_adding(self):
        for rounds in SMALL:
            for x in all_tuples(rounds):
                reached = (0,) * len(rounds)
                for n in range(20):
                    self.assertEqual(Rounds(rounds).times(n, x), reached)
                    reached = add_places(rounds, reached, x)

    def test_order(self):
        for rounds in GOOD:
            nought = (0,) * len(rounds)
            for x in all_tuples(rounds):
                n, reached = 1, x
                while reached != nought:
                    n, reached = n + 1, add_places(rounds, reached, x)
                self.assertEqual(Rounds(rounds).order(x), n)

    def test_total(self):
        for rounds in SMALL:
            self.assertEqual(Rounds(rounds).total([]), (0,) * len(rounds))
            members = all_tuples(rounds)
            for many in range(1, len(members) + 1):
                some = members[:many] + members[:1] + members[many // 2:]
                wanted = (0,) * len(rounds)
                for x in some:
                    wanted = add_places(rounds, wanted, x)
                handed = list(some)
                self.assertEqual(Rounds(rounds).total(handed), wanted)
                self.assertEqual(handed, some)
        self.assertEqual(Rounds((7,)).total([(3,)]), (3,))
        self.assertEqual(Rounds((7,)).total([(3,)] * 300), (900 % 7,))

    def test_is_even(self):
        for rounds in GOOD:
            self.assertIs(Rounds(rounds).is_even(), True)

    def test_answers_are_plain_tuples(self):
        group = Rounds([4, 3])
        for told in (group.nought(), group.added((1, 1), (3, 2)), group.back((1, 1)), group.times(5, (1, 1)),
                     group.total([(1, 1)]), *group.members(), *group.heads()):
            self.assertIs(type(told), tuple)
            self.assertTrue(all(type(k) is int for k in told))


class Elements(unittest.TestCase):
    """Point 5: what is an element, and what is refused."""

    def no_elements(self, rounds):
        """Things beside the elements of the group, however near they come."""
        near = [list(rounds), (0,) * (len(rounds) + 1), [0] * len(rounds), list(rounds) + [0]]
        near.append({at: 0 for at in range(len(rounds))})
        if rounds:
            near += [rounds, (0,) * (len(rounds) - 1), "0" * len(rounds)]
        for at, n in enumerate(rounds):
            for wrong in (n, n + 1, -1, -n, 10 ** 59, -(10 ** 59), True, False, None, "0", "", b"0", (0,), [0], ()):
                near.append((0,) * at + (wrong,) + (0,) * (len(rounds) - at - 1))
                near.append((1,) * at + (wrong,) + (1,) * (len(rounds) - at - 1))
        return near + odd_things()

    def test_has(self):
        for rounds in GOOD:
            group = Rounds(rounds)
            for x in all_tuples(rounds):
                self.assertIs(group.has(x), True)
                self.assertIs(group.has(list(x)), False)
            for thing in self.no_elements(rounds):
                self.assertIs(Rounds(rounds).has(thing), False)

    def test_no_element_is_refused_everywhere(self):
        for rounds in SMALL:
            good = all_tuples(rounds)[-1]
            for thing in self.no_elements(rounds):
                for ask in (
                    lambda g: g.added(thing, good), lambda g: g.added(good, thing), lambda g: g.added(thing, thing),
                    lambda g: g.back(thing), lambda g: g.order(thing),
                    lambda g: g.times(0, thing), lambda g: g.times(1, thing), lambda g: g.times(-1, thing),
                    lambda g: g.times(10 ** 59, thing),
                    lambda g: g.total([thing]), lambda g: g.total([thing, good, good]),
                    lambda g: g.total([good, thing, good]), lambda g: g.total([good, good, thing]),
                ):
                    with self.assertRaises(NoElement):
                        ask(Rounds(rounds))

    def test_a_refused_list_stays(self):
        handed = [(1,), (2,), None]
        with self.assertRaises(NoElement):
            Rounds((3,)).total(handed)
        self.assertEqual(handed, [(1,), (2,), None])

    def test_nothing_asked_changes_the_group(self):
        group = Rounds([2, 3])
        for x in group.members():
            group.added(x, x), group.back(x), group.times(-5, x), group.order(x), group.total([x, x]), group.has(x)
        self.assertEqual(group.rounds, (2, 3))
        self.assertEqual(group.members(), all_tuples((2, 3)))


class Likeness(unittest.TestCase):
    """Point 6."""

    def test_like(self):
        for one in GOOD:
            for other in GOOD:
                self.assertIs(Rounds(one).like(Rounds(list(other))), one == other)

    def test_a_group_is_like_itself(self):
        group = Rounds((2, 3))
        self.assertIs(group.like(group), True)

    def test_the_same_rounds_in_another_order(self):
        self.assertIs(Rounds((2, 4)).like(Rounds((4, 2))), False)
        self.assertIs(Rounds((2, 3)).like(Rounds((6,))), False)

    def test_a_group_that_is_not_by_rounds(self):
        for rounds in ((), (2,), (2, 2)):
            self.assertIs(Rounds(rounds).like(stack((), [rounds]).group()), False)
            self.assertIs(Rounds(rounds).like(stack(rounds, [()]).group()), False)


if __name__ == "__main__":
    unittest.main()
