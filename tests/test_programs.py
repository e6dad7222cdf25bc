import unittest

from plain import BIG, ODD, expanded
from scanmisses.errors import InvalidNumber, InvalidProgram
from scanmisses.programs import Program

TEXTS = [
    "", "0", "7", "0-3", "3-0", "2-9 4", "( 0-3 )5", "( 0-3 3-0 )5", "0-9 5-14", "( 1 )2", "( ( 12-9 3 )2 5-6 )3 11",
    "5 ( 6 ( 7-9 ( 8-6 )2 4 )3 )2 1", "( 0 )2 ( 0 )2", "4-6 6-4 5 5",
]
NO_NUMBERS = [None, True, False, "", "2", (), (2,), [2], {}, b"2", Program("2")]


def accesses_of(program):
    return expanded(program.text)


class ExamplesTest(unittest.TestCase):
    def test_examples_of_the_document(self):
        loop, wave = Program("( 0-3 )5"), Program("0-9 5-14")
        self.assertEqual(
            [wave.scans, wave.accesses, (wave + loop).text, (~(loop + wave)).text],
            [[(0, 9), (5, 14)], 20, "0-9 5-14 ( 0-3 )5", "14-5 9-0 ( 3-0 )5"])
        self.assertEqual(
            [(wave * 3).text, wave.spread(2).text, wave.blocks(4).text, wave.mirrored(20).text],
            ["( 0-9 5-14 )3", "0-19 10-29", "0-2 1-3", "20-11 15-6"])


class PropertiesTest(unittest.TestCase):
    def test_scans_as_they_are_written(self):
        self.assertEqual(Program("").scans, [])
        self.assertEqual(Program("5").scans, [(5, 5)])
        self.assertEqual(Program("0-3 4-9 4-9 9").scans, [(0, 3), (4, 9), (4, 9), (9, 9)])
        self.assertEqual(Program("5 ( 6 ( 7-9 )2 3-1 )9 ( 1 )2").scans, [(5, 5), (6, 6), (7, 9), (3, 1), (1, 1)])

    def test_accesses(self):
        for text in TEXTS:
            self.assertEqual(Program(text).accesses, len(expanded(text)))
        self.assertEqual(Program(f"( 0-{BIG} ( 5 ){BIG} ){BIG}").accesses, BIG * (BIG + 1 + BIG))

    def test_returned_list_is_a_new_one(self):
        program = Program("0-3 ( 5-4 )2")
        told = program.scans
        told.append((9, 9))
        told[0] = None
        self.assertEqual(program.scans, [(0, 3), (5, 4)])
        self.assertEqual(program.text, "0-3 ( 5-4 )2")
        self.assertIsNot(program.scans, program.scans)

    def test_kinds(self):
        program = Program("( 0-3 )2")
        self.assertIs(type(program.text), str)
        self.assertIs(type(program.accesses), int)
        self.assertIs(type(program.scans), list)
        self.assertIs(type(program.scans[0]), tuple)

    def test_listed_names_are_defined_in_the_class(self):
        for name in ["text", "scans", "accesses", "__add__", "__mul__", "__invert__", "__eq__", "moved", "mirrored",
                     "spread", "blocks"]:
            self.assertIn(name, vars(Program))
        self.assertEqual(Program.__module__, "scanmisses.programs")


class OperatorsTest(unittest.TestCase):
    def test_sums(self):
        for one in TEXTS:
            for two in TEXTS:
                told = Program(one) + Program(two)
                self.assertEqual(told.text, f"{one} {two}".strip())
                self.assertEqual(accesses_of(told), expanded(one) + expanded(two))

    def test_sum_with_itself_and_three(self):
        program = Program("( 0-3 )2")
        self.assertEqual((program + program).text, "( 0-3 )2 ( 0-3 )2")
        self.assertEqual((program + program + Program("7")).text, "( 0-3 )2 ( 0-3 )2 7")

    def test_sum_of_more_than_forty_scans(self):
        forty = Program(" ".join(["0-3"] * 40))
        told = forty + forty
        self.assertEqual(told.text, " ".join(["0-3"] * 80))
        self.assertEqual([len(told.scans), told.accesses], [80, 320])

    def test_multiples(self):
        for text in TEXTS:
            program = Program(text)
            self.assertEqual((program * 0).text, "")
            self.assertEqual((program * 1).text, text)
            for times in (2, 3, 10, BIG):
                self.assertEqual((program * times).text, f"( {text} ){times}" if text else "")
                self.assertEqual((program * times).accesses, program.accesses * times)
            self.assertEqual(accesses_of(program * 3), expanded(text) * 3)

    def test_multiples_of_multiples(self):
        program = Program("0-3")
        for _ in range(7):
            program = program * BIG
        self.assertEqual(program.text, "( " * 7 + "0-3" + f" ){BIG}" * 7)
        self.assertEqual(program.accesses, 4 * BIG ** 7)
        self.assertEqual((~program).text, "( " * 7 + "3-0" + f" ){BIG}" * 7)
        self.assertEqual(program.moved(2).text, "( " * 7 + "2-5" + f" ){BIG}" * 7)

    def test_backwards(self):
        for text in TEXTS:
            program = Program(text)
            self.assertEqual(accesses_of(~program), expanded(text)[::-1])
            self.assertEqual(~~program, program)
        self.assertEqual((~Program("1-2 ( 3 ( 4-6 7 )2 8-9 )5 0")).text, "0 ( 9-8 ( 7 6-4 )2 3 )5 2-1")
        self.assertEqual((~Program("")).text, "")

    def test_equality(self):
        for one in TEXTS:
            for two in TEXTS:
                self.assertIs(Program(one) == Program(two), one == two)
                self.assertIs(Program(one) != Program(two), one != two)
        self.assertEqual(Program("0") + Program("1"), Program("0 1"))
        self.assertEqual(Program("0") * 2, Program("( 0 )2"))
        self.assertNotEqual(Program("0 0"), Program("( 0 )2"))
        self.assertNotEqual(Program("0 1"), Program("0-1"))
        self.assertNotEqual(Program("( 0 )2"), Program("( 0 )3"))
        self.assertNotEqual(Program("( 0 )2 1"), Program("( 0 1 )2"))

    def test_equality_with_other_kinds(self):
        for text in ["", "0", "( 0-3 )5"]:
            program = Program(text)
            for value in [*ODD, text, 0, Program, program.scans]:
                self.assertIs(program == value, False)
                self.assertIs(program.__eq__(value), False)
                self.assertIs(program != value, True)

    def test_operands_are_unchanged(self):
        one, two = Program("( 0-3 )5 1"), Program("7-4")
        told = [(one + two).text, (one * 3).text, (~one).text]
        self.assertEqual([one.text, two.text], ["( 0-3 )5 1", "7-4"])
        self.assertEqual([(one + two).text, (one * 3).text, (~one).text], told)


class MethodsTest(unittest.TestCase):
    def test_moved(self):
        for text in TEXTS:
            program, plain = Program(text), expanded(text)
            for shift in range(-12, 13):
                if plain and min(plain) + shift < 0:
                    self.assertRaises(InvalidNumber, program.moved, shift)
                else:
                    self.assertEqual(accesses_of(program.moved(shift)), [address + shift for address in plain])
            self.assertEqual(program.moved(0), program)

    def test_mirrored(self):
        for text in TEXTS:
            program, plain = Program(text), expanded(text)
            for top in range(-2, 25):
                if plain and top < max(plain):
                    self.assertRaises(InvalidNumber, program.mirrored, top)
                else:
                    self.assertEqual(accesses_of(program.mirrored(top)), [top - address for address in plain])

    def test_just_reaching_zero(self):
        program = Program("9-5 ( 7 )3")
        self.assertEqual(program.moved(-5).text, "4-0 ( 2 )3")
        self.assertRaises(InvalidNumber, program.moved, -6)
        self.assertEqual(program.mirrored(9).text, "0-4 ( 2 )3")
        self.assertRaises(InvalidNumber, program.mirrored, 8)
        self.assertEqual(Program("3").moved(-3).text, "0")
        self.assertRaises(InvalidNumber, Program("3").moved, -4)
        self.assertEqual(Program("3").mirrored(3).text, "0")
        self.assertRaises(InvalidNumber, Program("9 ( 8 ( 0-2 )2 )2").moved, -1)

    def test_spread(self):
        for text in TEXTS:
            program = Program(text)
            for width in (1, 2, 3, 7):
                self.assertEqual(accesses_of(program.spread(width)), expanded(text, width))
                self.assertEqual(program.spread(width).accesses, program.accesses * width)
            self.assertEqual(program.spread(1), program)

    def test_spread_directions(self):
        self.assertEqual(Program("0-3 3-0 2").spread(4).text, "0-15 15-0 8-11")
        self.assertEqual(Program("( 5 )2 ( 1-0 )9").spread(2).text, "( 10-11 )2 ( 3-0 )9")
        self.assertEqual(Program("").spread(5).text, "")
        self.assertEqual(Program("0").spread(BIG).text, f"0-{BIG - 1}")

    def test_blocks(self):
        for text in TEXTS:
            program = Program(text)
            for width in (1, 2, 3, 7, 100):
                told = program.blocks(width)
                self.assertEqual(told.scans, [(first // width, last // width) for first, last in program.scans])
                self.assertEqual(told.text.count("("), text.count("("))
            self.assertEqual(program.blocks(1), program)
            self.assertEqual(program.spread(5).blocks(5), program)
        self.assertEqual(Program("( 0-3 7-4 )5 9").blocks(4).text, "( 0 1 )5 2")
        self.assertEqual(Program(f"{BIG}-0").blocks(BIG).text, "1-0")

    def test_one_after_the_other(self):
        program = Program("( 2-9 4 )3")
        self.assertEqual(program.moved(5).moved(-7).text, "( 0-7 2 )3")
        self.assertEqual(program.mirrored(20).mirrored(20), program)
        self.assertEqual(program.spread(2).moved(1).mirrored(30).blocks(3).text, "( 8-3 7-6 )3")
        self.assertEqual((~program.moved(3) * 2 + program).text, "( ( 7 12-5 )3 )2 ( 2-9 4 )3")

    def test_empty_program(self):
        empty = Program("")
        for told in [empty.moved(5), empty.moved(-5), empty.mirrored(0), empty.mirrored(-5), empty.spread(3),
                     empty.blocks(3), ~empty, empty * 9, empty + empty, empty * 0]:
            self.assertEqual([told.text, told.scans, told.accesses], ["", [], 0])

    def test_greater_numbers_than_a_text_may_have(self):
        program = Program(f"{BIG}-0")
        self.assertEqual(program.moved(7).text, f"{BIG + 7}-7")
        self.assertEqual(program.moved(10 ** 99).text, f"{10 ** 99 + BIG}-{10 ** 99}")
        self.assertEqual(program.mirrored(10 ** 99).text, f"{10 ** 99 - BIG}-{10 ** 99}")
        self.assertEqual(program.spread(BIG).text, f"{BIG * BIG + BIG - 1}-0")
        self.assertEqual(program.spread(BIG).accesses, BIG * (BIG + 1))
        self.assertEqual(program.spread(BIG).spread(BIG).blocks(BIG).blocks(BIG), program)

    def test_numbers_of_thousands_of_digits(self):
        """Python itself refuses to write such numbers, but the text of a returned program has them."""
        program = Program("10")
        for _ in range(160):
            program = program.spread(BIG)
        first, last = program.text.split("-")
        self.assertEqual(first, "1" + "0" * 4801)
        self.assertEqual(last, "10" + "9" * 4800)
        for _ in range(160):
            program = program.blocks(BIG)
        self.assertEqual(program.text, "10")


class WrongArgumentsTest(unittest.TestCase):
    def setUp(self):
        self.program = Program("4-9 ( 5 )2")

    def tearDown(self):
        self.assertEqual(self.program.text, "4-9 ( 5 )2")
        self.assertEqual(self.program.scans, [(4, 9), (5, 5)])

    def test_sum(self):
        for value in [*ODD, 0, 1, "4-9", Program, [(4, 9)]]:
            with self.assertRaises(InvalidProgram, msg=value):
                self.program + value
            with self.assertRaises(InvalidProgram):
                Program("") + value

    def test_multiple(self):
        for value in [*NO_NUMBERS, -1, -BIG, BIG + 1, 10 ** 99]:
            with self.assertRaises(InvalidNumber, msg=value):
                self.program * value
            with self.assertRaises(InvalidNumber):
                Program("") * value

    def test_moved_and_mirrored(self):
        for value in NO_NUMBERS:
            for program in (self.program, Program("")):
                self.assertRaises(InvalidNumber, program.moved, value)
                self.assertRaises(InvalidNumber, program.mirrored, value)
        for value in (-5, -10 ** 99):
            self.assertRaises(InvalidNumber, self.program.moved, value)
        for value in (8, 0, -1, -10 ** 99):
            self.assertRaises(InvalidNumber, self.program.mirrored, value)

    def test_spread_and_blocks(self):
        for value in [*NO_NUMBERS, 0, -1, -BIG, BIG + 1, 10 ** 99]:
            for program in (self.program, Program("")):
                self.assertRaises(InvalidNumber, program.spread, value)
                self.assertRaises(InvalidNumber, program.blocks, value)
        for value in (1, BIG):
            self.program.spread(value)
            self.program.blocks(value)
