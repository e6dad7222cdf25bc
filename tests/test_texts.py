"""What texts Program reads, and the index of the first wrong word of the others."""

import unittest

from plain import BIG, expanded
from scanmisses.errors import InvalidText, ScanError
from scanmisses.programs import Program

RIGHT = [
    "", "0", "7", "10", "0-1", "1-0", "0-3 3-0", "( 0 )2", "( 0-3 )5", "( 0-3 3-0 )5", "0-9 5-14",
    "( 1 ( 2 )2 )3", "( ( 2 )2 )3", "5 ( 6 ( 7-9 ( 8-6 )2 4 )3 )2 1", "( 0 )10 ( 0 )10", "9 9 9",
    "( ( ( ( ( 1-2 )2 )2 )2 )2 )2 ( ( ( ( ( 3 )2 )2 )2 )2 )2",
]


def index_of(text):
    """The index of the InvalidText that a text raises."""
    try:
        Program(text)
    except InvalidText as error:
        return error.index
    return "no error"


class RightTextsTest(unittest.TestCase):
    def test_text_stays(self):
        for text in RIGHT:
            self.assertEqual(Program(text).text, text)

    def test_empty_text(self):
        program = Program("")
        self.assertEqual([program.text, program.scans, program.accesses], ["", [], 0])

    def test_greatest_numbers(self):
        text = f"0 {BIG} 0-{BIG} {BIG}-0 ( {BIG} ){BIG}"
        program = Program(text)
        self.assertEqual(program.text, text)
        self.assertEqual(program.scans, [(0, 0), (BIG, BIG), (0, BIG), (BIG, 0), (BIG, BIG)])
        self.assertEqual(program.accesses, 2 + 2 * (BIG + 1) + BIG)

    def test_forty_scans_five_brackets(self):
        text = " ".join(["0"] * 40)
        self.assertEqual(len(Program(text).scans), 40)
        text = "( " * 5 + " ".join(["1-2"] * 40) + f" ){BIG}" * 5
        self.assertEqual(Program(text).text, text)
        self.assertEqual(Program(text).accesses, 80 * BIG ** 5)
        text = " ".join(["( 0 )2"] * 40)
        self.assertEqual(Program(text).text, text)


class WrongTextsTest(unittest.TestCase):
    def check(self, text, index):
        self.assertEqual(index_of(text), index, repr(text))

    def test_example_of_the_document(self):
        self.check("0-3 ( )2", 2)

    def test_words_that_are_none(self):
        words = [
            "3-3", "0-0", "07", "00", "07-9", "9-07", "0-00", ")1", ")0", ")", ")-2", ")02", ")+2", ")2)", "))2",
            "-", "-3", "3-", "3--4", "3-4-5", "+3", "x", "3x", "0x3", "3.", "3,4", "1_0", "((", "()", "(3", "3)",
            "(0)2", "[", "{}", "\n", "\t", "0\n", "\n0", "0\n1", "0-\n3", "(\n", ")2\n",
            "\u0663", "\u00b2", "3-\u0664", ")\u0663", "\uff13", "e", "1e3", "~", "1-2\t",
        ]
        for word in words:
            self.check(word, 0)
            self.check(f"0 {word}", 1)
            self.check(f"0-3 ( 5 {word} 6 )2", 3)
            self.check(f"0-3 ( 5 )2 {word} 3-3", 4)

    def test_numbers_beyond(self):
        more = BIG + 1
        for word in [f"{more}", f"0-{more}", f"{more}-0", f"{more}-{more}", "9" * 31, "1" + "0" * 31, "1" * 9000]:
            self.check(word, 0)
            self.check(f"5 {word}", 1)
        self.check(f"( 0 ){BIG}", "no error")
        self.check(f"( 0 ){more}", 2)
        self.check("( 0 )" + "9" * 9000, 2)
        self.check("0" * 9000, 0)

    def test_times(self):
        for times in ("0", "1", "02", "", "-2", "x", "2-3", " 2"):
            self.check(f"( 0 ){times}", 2)
        self.check("( 0 )2", "no error")
        self.check("( 0 )3", "no error")

    def test_brackets(self):
        self.check(")2", 0)
        self.check("0 )2", 1)
        self.check("( 0 )2 )2", 3)
        self.check("( )2", 1)
        self.check("( ( )2 0 )2", 2)
        self.check("( 0 ( )2 )2", 3)
        self.check("( ( 0 )2 )2 ( )2", 6)

    def test_brackets_that_stay(self):
        self.check("(", 1)
        self.check("( 0", 2)
        self.check("( ( 0 )2", 4)
        self.check("0 ( ( 1-2", 4)
        self.check("( 0 )2 (", 4)
        self.check("( ( ( ( (", 5)

    def test_a_wrong_word_ahead_of_brackets_that_stay(self):
        self.check("( 3-3", 1)
        self.check("( 0 07 ( 1", 2)

    def test_spaces(self):
        self.check(" ", 0)
        self.check("  ", 0)
        self.check(" 0", 0)
        self.check("0 ", 1)
        self.check("0  1", 1)
        self.check("0 1  2", 2)
        self.check("( 0 )2 ", 3)
        self.check("( 0  )2", 2)
        self.check("( ", 1)
        self.check("\n", 0)
        self.check("0 1\n", 1)
        self.check("0\n1", 0)

    def test_scan_41(self):
        forty = " ".join(["0"] * 40)
        self.check(f"{forty} 0", 40)
        self.check(f"{forty} 0-1 x", 40)
        self.check(f"( {forty} )2 5", 42)
        self.check("( 0 )2 " * 40 + "7", 120)
        self.check("( 0 )2 " * 40 + "( 7 )2", 121)
        self.check(f"{forty} (", 41)
        self.check(f"{forty} ( )2", 41)
        self.check("0 " * 39 + "x 0 0", 39)

    def test_bracket_6(self):
        self.check("( ( ( ( ( ( 0 )2 )2 )2 )2 )2 )2", 5)
        self.check("( 0 ( 1 ( 2 ( 3 ( 4 (", 10)
        self.check("( ( ( ( ( 0 )2 ( 1 )2 )2 )2 )2 )2", "no error")
        self.check("( ( ( ( ( 0 )2 ( ( 1", 8)
        self.check("( 0 )2 " * 6 + "0", "no error")

    def test_scan_41_and_bracket_6(self):
        forty = " ".join(["0"] * 40)
        self.check(f"( ( ( ( ( {forty} 0 (", 45)
        self.check(f"( ( ( ( ( {forty} ( 0", 45)
        self.check(f"( ( ( ( ( ( {forty} 0", 5)

    def test_what_is_no_string(self):
        for value in [None, True, False, 0, 3, -1, b"", b"0-3", [], ["0"], (), ("0",), {}, object(), Program("0"),
                      Program, [(0, 3)], 10 ** 999]:
            with self.assertRaises(InvalidText) as caught:
                Program(value)
            self.assertIsNone(caught.exception.index)
            self.assertIsInstance(caught.exception, ScanError)


class SmallTextsTest(unittest.TestCase):
    def test_all_texts_of_few_words(self):
        """Each sequence of up to five words is read, or has its first wrong word, as a plain reading tells."""
        words = ["0", "2-1", "(", ")2", ")1", ""]
        texts = [[]]
        for _ in range(5):
            texts.extend([[*row, word] for row in texts for word in words if len(row) == len(texts[-1])])
        for row in texts:
            if row and row != [""]:
                self.assertEqual(index_of(" ".join(row)), plain_index(row), row)

    def test_accesses_of_right_texts(self):
        for text in RIGHT:
            self.assertEqual(Program(text).accesses, len(expanded(text)), text)


def plain_index(words):
    """The index of the first wrong word, as the document tells it."""
    opened = 0
    for index, word in enumerate(words):
        if word in (")1", ""):
            return index
        if word == "(":
            opened += 1
        if word == ")2":
            if opened == 0 or words[index - 1] == "(":
                return index
            opened -= 1
    return len(words) if opened else "no error"
