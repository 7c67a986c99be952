"""Points 2 and 10: tables written as lists of texts, and read."""

import re
import unittest

from carrytower.errors import NoLower, NoText, NoUpper
from carrytower.groups import Rounds
from carrytower.tables import Table, alike
from carrytower.tabletexts import read_table, table_text
from helper import all_tuples, any_carries, ruled_carries

SHAPES = (
    ((), ()), ((3,), ()), ((), (2,)), ((), (3, 3)), ((2,), (2,)), ((4,), (2, 2)), ((2, 4), (3,)), ((4, 2), (2, 4)),
    ((16,), (9,)), ((2, 2, 2, 2), (2, 2, 2)), ((12,), (3, 3)), ((2, 8), ()),
)
COLUMNS = ["10 3", "0 0 0", "0 0 1", "0 1 1"]


def written(things, between, none):
    return between.join(str(k) for k in things) or none


def written_rows(lower, upper, carries):
    """The texts by the words of the document."""
    members = all_tuples(upper)
    head = f"{written(lower, 'x', '1')} {written(upper, 'x', '1')}"
    return [head] + [" ".join(written(carries[(x, y)], ",", "-") for y in members) for x in members]


def near_rows(row):
    """The row with a sign or a word put in, left out or changed."""
    for at in range(len(row) + 1):
        for sign in " 0129,x-a":
            yield row[:at] + sign + row[at:]
            yield row[:at] + sign + row[at + 1:]
        yield row[:at] + row[at + 1:]
    words = row.split(" ")
    yield from (" ".join(words + words[:1]), " ".join(words[1:]), " ".join(words[::-1]), "", " ", "  ")
    yield from ("  ".join(words), " " + row, row + " ", row + row, row + "\n", "\t".join(words), row.upper())


class Writing(unittest.TestCase):
    def test_by_hand(self):
        carries = {((k,), (m,)): (int(k + m >= 3),) for k in range(3) for m in range(3)}
        self.assertEqual(table_text(Table(Rounds((10,)), Rounds((3,)), carries)), COLUMNS)
        self.assertEqual(table_text(Table(Rounds(()), Rounds(()), {((), ()): ()})), ["1 1", "-"])
        self.assertEqual(table_text(Table(Rounds((2, 4)), Rounds(()), {((), ()): (1, 3)})), ["2x4 1", "1,3"])
        table = Table(Rounds((2, 4)), Rounds((2,)), {((k,), (m,)): (k, 2 * k + m) for k in range(2) for m in range(2)})
        self.assertEqual(table_text(table), ["2x4 2", "0,0 0,1", "1,2 1,3"])

    def test_there_and_back(self):
        for seed, (lower, upper) in enumerate(SHAPES):
            for carries in (any_carries(lower, upper, seed), ruled_carries(lower, upper, seed)):
                table = Table(Rounds(lower), Rounds(upper), carries)
                rows = table_text(table)
                self.assertIs(type(rows), list)
                self.assertEqual(rows, written_rows(lower, upper, carries))
                read = read_table(rows)
                self.assertIsInstance(read, Table)
                self.assertEqual((read.lower.rounds, read.upper.rounds), (lower, upper))
                self.assertEqual(read.carries(), carries)
                self.assertTrue(alike(read, table))
                self.assertEqual(table_text(read), rows)

    def test_the_told_list_changed_and_told_again(self):
        table = read_table(COLUMNS)
        told = table_text(table)
        told[1] = "1 1 1"
        told.pop()
        self.assertEqual(table_text(table), COLUMNS)
        self.assertIsNot(table_text(table), table_text(table))

    def test_the_read_list_stays_and_changed_behind_the_call_changes_nothing(self):
        handed = list(COLUMNS)
        table = read_table(handed)
        self.assertEqual(handed, COLUMNS)
        handed[2] = "5 5 5"
        handed.clear()
        self.assertEqual(table_text(table), COLUMNS)
        self.assertEqual(table.carry((1,), (2,)), (1,))


class Refusing(unittest.TestCase):
    def refused(self, rows, wanted, at=None):
        handed = list(rows)
        with self.assertRaises(wanted, msg=rows) as caught:
            read_table(handed)
        if at is not None:
            self.assertEqual(caught.exception.at, at, rows)
        self.assertEqual(handed, list(rows))

    def test_no_first_text(self):
        self.refused([], NoText, 0)

    def test_a_first_text_that_is_none(self):
        for head in (
            "", " ", "  ", "2", "2 ", " 2", "2  3", " 2 3", "2 3 ", "2 3 4", "2x 3", "x2 3", "2 3x", "2x2", "2,2 3",
            "2\t3", "2 3\n", "02 3", "2 03", "0 3", "2 0", "2 -", "- 2", "-2 3", "1x2 3", "2 1x3", "2 3x1", "145 3",
            "2 145", "2 12x13", "a b", "10 3 0", "1000 3", "2 0003", "2X2 3", "17 145", "145 10", "2" * 2000,
        ):
            for rest in (COLUMNS[1:], [], ["wrong"], COLUMNS[1:] + ["0"]):
                self.refused([head] + rest, NoText, 0)

    def test_groups_that_are_too_great(self):
        for head, wanted in (
            ("17 3", NoLower), ("144 3", NoLower), ("2x9 1", NoLower), ("3x6 9", NoLower), ("17 10", NoLower),
            ("144 144", NoLower), ("16 10", NoUpper), ("1 10", NoUpper), ("2 2x5", NoUpper), ("2 144", NoUpper),
            ("10 2x2x3", NoUpper),
        ):
            for rest in ([], COLUMNS[1:], ["wrong"], ["0"] * 20, [""]):
                self.refused([head] + rest, wanted)

    def test_the_greatest_groups(self):
        for lower, upper in (((16,), (9,)), ((2, 2, 4), (3, 3))):
            rows = written_rows(lower, upper, any_carries(lower, upper, 1))
            self.assertEqual(table_text(read_table(rows)), rows)

    def test_a_row_that_is_wanting(self):
        for lower, upper in SHAPES:
            rows = written_rows(lower, upper, any_carries(lower, upper, 2))
            for many in range(1, len(rows)):
                self.refused(rows[:many], NoText, many)

    def test_a_text_too_many(self):
        for lower, upper in SHAPES:
            rows = written_rows(lower, upper, any_carries(lower, upper, 3))
            for more in ([""], [" "], rows[-1:], rows[:1], ["wrong"], rows[1:], rows, ["-"] * 280):
                self.refused(rows + more, NoText, len(rows))

    def test_wrong_rows_by_hand(self):
        for row in (
            "", " ", "0", "0 0", "0 0 0 0", "0 0  0", "0  0 0", " 0 0 0", "0 0 0 ", "0 0 10", "0 0 00", "0 0 01", "0 0 -",
            "- - -", "0 0 -1", "0 0 +1", "0 0 0,0", "0,0,0", "0x0x0", "0 0 a", "a 0 0", "0 0 True", "0 0 (0,)", "000",
            "0\t0\t0", "0 0 0\n", "0 0 0.0", "0 0 1000", "0 0 " + "1" * 1900, " ".join("0" * 900),
        ):
            for at in (1, 2, 3):
                rows = COLUMNS[:at] + [row] + COLUMNS[at + 1:]
                self.refused(rows, NoText, at)
                self.refused(rows + ["0 0 0"], NoText, at)
                self.refused(rows[:at + 1], NoText, at)

    def test_the_first_of_several(self):
        for first in (1, 2, 3):
            for later in range(first + 1, 4):
                rows = list(COLUMNS)
                rows[first], rows[later] = "0 0", "0 0 10"
                self.refused(rows, NoText, first)
                self.refused(rows[:later], NoText, first)
                self.refused(["10 3x3"] + rows[1:], NoText, 1)

    def test_rows_nearby_are_other_rows_or_none(self):
        for lower, upper in (((), (2,)), ((3,), ()), ((10,), (3,)), ((2, 4), (2,)), ((12,), (2, 2))):
            rows = written_rows(lower, upper, any_carries(lower, upper, 4))
            words = sorted((written(a, ",", "-") for a in all_tuples(lower)), key=len, reverse=True)
            word, many = "(?:" + "|".join(words) + ")", len(all_tuples(upper))
            good = re.compile(f"{word}(?: {word}){{{many - 1}}}")
            for at in range(1, len(rows)):
                for row in near_rows(rows[at]):
                    changed = rows[:at] + [row] + rows[at + 1:]
                    if good.fullmatch(row):
                        self.assertEqual(table_text(read_table(changed)), changed)
                    else:
                        self.refused(changed, NoText, at)

    def test_rows_of_a_lower_group_without_rounds(self):
        self.assertEqual(read_table(["1 2", "- -", "- -"]).carry((1,), (1,)), ())
        for row in ("0 0", "-", "- - -", "--", "-  -", " - -", "- - ", "- 0", "1 1"):
            self.refused(["1 2", row, "- -"], NoText, 1)
            self.refused(["1 2", "- -", row], NoText, 2)


if __name__ == "__main__":
    unittest.main()
