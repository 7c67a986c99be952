"""Point 7: rounds and elements, written and read."""

import unittest

from carrytower.errors import NoText
from carrytower.groups import Rounds
from carrytower.texts import element_text, read_element, read_rounds, rounds_text
from helper import all_rounds, all_tuples

SIGNS = [chr(k) for k in range(32, 127) if chr(k) != "%"]
GROUPS = ((), (2,), (9,), (10,), (12,), (100,), (144,), (2, 4), (4, 2), (12, 12), (2, 2, 3), (2,) * 7)


def near_texts(text):
    """The text with a sign put in, left out or changed."""
    for at in range(len(text) + 1):
        for sign in SIGNS:
            yield text[:at] + sign + text[at:]
            if at < len(text):
                yield text[:at] + sign + text[at + 1:]
        if at < len(text):
            yield text[:at] + text[at + 1:]


class RoundsTexts(unittest.TestCase):
    def refused(self, text):
        with self.assertRaises(NoText, msg=text) as caught:
            read_rounds(text)
        self.assertEqual(caught.exception.at, 0)

    def test_written(self):
        self.assertEqual(rounds_text(Rounds(())), "1")
        self.assertEqual(rounds_text(Rounds((2, 4))), "2x4")
        self.assertEqual(rounds_text(Rounds([144])), "144")
        self.assertEqual(rounds_text(Rounds((2,) * 7)), "2x2x2x2x2x2x2")

    def test_all_rounds_there_and_back(self):
        for rounds in all_rounds(144):
            text = rounds_text(Rounds(rounds))
            read = read_rounds(text)
            self.assertIsInstance(read, Rounds)
            self.assertEqual(read.rounds, rounds)
            self.assertEqual(text, "x".join(map(str, rounds)) if rounds else "1")

    def test_texts_nearby_are_other_rounds_or_none(self):
        written = {("x".join(map(str, rounds)) if rounds else "1"): rounds for rounds in all_rounds(144)}
        for rounds in GROUPS:
            for text in near_texts(rounds_text(Rounds(rounds))):
                if text in written:
                    self.assertEqual(read_rounds(text).rounds, written[text])
                else:
                    self.refused(text)

    def test_refused(self):
        for text in (
            "", " ", "x", "xx", "2x", "x2", "2xx2", "0", "01", "02", "2x04", "002", "2x0", "0x2", "1x1", "1x2", "2x1",
            "145", "2x73", "12x13", "2x2x2x2x2x2x2x2", "1000", "0002", "0144", "2x1000", "999", "2x999",
            " 2", "2 ", "2 x4", "2x 4", "2 4", "-2", "2x-4", "-", "+2", "2x+4", "2X4", "2*4", "2,4", "2.0", "1_0",
            "(2, 4)", "[2]", "()", "None", "1x", "x1", "1 ", "\t2", "2\n", "9" * 2000, "2x" * 999 + "2",
        ):
            self.refused(text)


class ElementTexts(unittest.TestCase):
    def refused(self, group, text):
        with self.assertRaises(NoText, msg=text) as caught:
            read_element(group, text)
        self.assertEqual(caught.exception.at, 0)

    def test_written(self):
        self.assertEqual(element_text(()), "-")
        self.assertEqual(element_text((0,)), "0")
        self.assertEqual(element_text((1, 3)), "1,3")
        self.assertEqual(element_text((143,)), "143")

    def test_all_elements_there_and_back(self):
        for rounds in GROUPS:
            group = Rounds(rounds)
            for x in all_tuples(rounds):
                text = element_text(x)
                self.assertEqual(text, ",".join(map(str, x)) if x else "-")
                self.assertEqual(read_element(group, text), x)
                self.assertIs(type(read_element(group, text)), tuple)

    def test_texts_nearby_are_other_elements_or_none(self):
        for rounds in GROUPS:
            group = Rounds(rounds)
            written = {(",".join(map(str, x)) if x else "-"): x for x in all_tuples(rounds)}
            for x in (all_tuples(rounds)[0], all_tuples(rounds)[-1]):
                for text in near_texts(element_text(x)):
                    if text in written:
                        self.assertEqual(read_element(group, text), written[text])
                    else:
                        self.refused(group, text)

    def test_refused(self):
        for rounds, texts in (
            ((), ("", "0", "1", "--", "- ", " -", "-,-", ",", "-0")),
            ((2,), ("", "-", "2", "00", "01", "-1", "-0", "+1", " 1", "1 ", "1,", ",1", "0,0", "1.0", "(1,)")),
            ((2, 4), ("-", "0", "1,4", "2,0", "1, 3", "1 ,3", "1 3", "1x3", "1,,3", "1,3,0", "1,03", "01,3", "1,-1",
                      "-,-", "1;3", "1,3 ", " 1,3", "1,3\n")),
            ((144,), ("144", "0143", "1430", "0000", "143,", "1" * 2000)),
        ):
            for text in texts:
                self.refused(Rounds(rounds), text)

    def test_signs_of_other_scripts_are_no_figures(self):
        for text in ("\u00b2", "\u0663", "\uff12"):
            self.refused(Rounds((9,)), text)
            with self.assertRaises(NoText):
                read_rounds(text)


if __name__ == "__main__":
    unittest.main()
