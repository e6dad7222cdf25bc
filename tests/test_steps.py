import itertools
import unittest

from plain import (
    BIG, FAR, LEVELS, NO_NUMBERS, ODD, depth_of, distances_in, expanded, last_in, random_texts, same_places)
from scanmisses.errors import (
    InvalidAddress, InvalidIndex, InvalidNumber, InvalidProgram, ScanError, TooLarge)
from scanmisses.programs import Program
from scanmisses.steps import (
    address_at, count_reads, distance_at, last_before, nth_read, parted, written)
from scanmisses.summaries import profile_of, summary_of

TEXTS = [
    "", "0", "7", "0-3", "3-0", "2-9 4", "( 0-3 )5", "( 0-3 3-0 )5", "0-9 5-14", "( 1 )2", "( ( 12-9 3 )2 5-6 )3 11",
    "5 ( 6 ( 7-9 ( 8-6 )2 4 )3 )2 1", "( 0 )2 ( 0 )2", "4-6 6-4 5 5", "( ( ( ( ( 0-2 )2 1 )2 )2 3-1 )2 0 )2",
]
FLAT = ["", "0", "0-3", "3-0", "2-9 4", "0-9 5-14", "4-6 6-4 5 5", "0 0 0", "1-2 2-1 0-5 7 6-3"]


class ExamplesTest(unittest.TestCase):
    def test_examples_of_the_document(self):
        wave = Program("0-9 5-14")
        self.assertEqual(
            [written(Program("2-0 5")), address_at(wave, 12), last_before(wave, 12), distance_at(wave, 12),
             distance_at(wave, 3)],
            [[2, 1, 0, 5], 7, 7, 5, None])
        self.assertEqual(
            [count_reads(wave * 10 ** 30, 7), nth_read(wave, 7, 1)], [2000000000000000000000000000000, 12])

    def test_modules(self):
        for function in (written, parted, address_at, last_before, distance_at, count_reads, nth_read):
            self.assertEqual(function.__module__, "scanmisses.steps")


class WrittenTest(unittest.TestCase):
    def test_small_programs(self):
        for text in TEXTS + random_texts(21, 300):
            self.assertEqual(written(Program(text)), expanded(text))

    def test_ten_thousand(self):
        for text in ("0-9998", "9998-0", "( 5-3 )3333", "( ( 0-8 )11 )101", "0-99 ( 7 )9899"):
            self.assertEqual(written(Program(text)), expanded(text))
            self.assertEqual(len(written(Program(text))), 9999)
            more = Program(text) + Program("4")
            self.assertEqual(written(more), expanded(text) + [4])
            self.assert_too_large(more + Program("4"))
        self.assertEqual(len(written(Program("( ( 0-99 )10 )10"))), 10000)
        self.assert_too_large(Program("0-10000"))
        self.assert_too_large(Program("( 1 )10001"))

    def assert_too_large(self, program):
        with self.assertRaises(TooLarge) as caught:
            written(program)
        self.assertEqual(caught.exception.limit, 10000)
        self.assertIsInstance(caught.exception, ScanError)

    def test_great_programs(self):
        for text in (f"0-{BIG}", f"( 0 ){BIG}", f"( ( ( 0-{BIG} ){BIG} ){BIG} )2", "( ( 7 )5000 3 )2"):
            self.assert_too_large(Program(text))
        self.assert_too_large(Program("0-3") * BIG * BIG * BIG * BIG * BIG * BIG * BIG)

    def test_more_scans_and_repeats_than_a_text_may_have(self):
        forty = Program(" ".join(["0-3 4-1"] * 20))
        program = forty + forty + Program("7") + forty * 3
        self.assertEqual(written(program), expanded(program.text))
        program = Program("2-0")
        for _ in range(11):
            program = program * 2
        self.assertEqual(program.text.count("("), 11)
        self.assertEqual(written(program), [2, 1, 0] * 2048)
        self.assert_too_large(program * 2)
        program = Program("")
        for k in range(300):
            program = program + Program(f"( {k} )2 {k + 5}-{k}")
        self.assertEqual(written(program), expanded(program.text))
        self.assertEqual(len(program.scans), 600)

    def test_far_addresses(self):
        self.assertEqual(written(Program(f"{BIG}-{BIG - 2}").moved(FAR)), [FAR + BIG, FAR + BIG - 1, FAR + BIG - 2])

    def test_returned_list_is_new(self):
        program = Program("( 0-2 )2")
        told = written(program)
        told.append(None)
        self.assertEqual(written(program), [0, 1, 2, 0, 1, 2])


class PartedTest(unittest.TestCase):
    def check(self, program, many):
        told = parted(program, many)
        self.assertIs(type(told), tuple)
        self.assertEqual([type(part) for part in told], [Program, Program])
        for part in told:
            self.assertLessEqual(depth_of(part.text), depth_of(program.text))
            self.assertEqual([len(part.scans) > 0, part.text != ""], [part.accesses > 0] * 2)
        self.assertEqual([told[0].accesses, told[1].accesses], [many, program.accesses - many])
        return told

    def test_each_place_of_small_programs(self):
        for text in TEXTS + random_texts(22, 120, longest=80):
            accesses = expanded(text)
            for many in range(len(accesses) + 1):
                head, tail = self.check(Program(text), many)
                self.assertEqual(expanded(head.text), accesses[:many])
                self.assertEqual(expanded(tail.text), accesses[many:])

    def test_parts_of_parts(self):
        for text in TEXTS + random_texts(23, 12, longest=40):
            accesses = expanded(text)
            for start, stop in itertools.combinations_with_replacement(range(len(accesses) + 1), 2):
                one = self.check(self.check(Program(text), stop)[0], start)[1]
                two = self.check(self.check(Program(text), start)[1], stop - start)[0]
                self.assertEqual(expanded(one.text), accesses[start:stop])
                self.assertEqual(expanded(two.text), accesses[start:stop])

    def test_parts_are_texts(self):
        for text in TEXTS:
            for many in range(len(expanded(text)) + 1):
                for part in parted(Program(text), many):
                    if len(part.scans) <= 40:
                        self.assertEqual(Program(part.text), part)

    def test_without_repeats(self):
        for text in FLAT:
            program = Program(text)
            for many in range(program.accesses + 1):
                for part in self.check(program, many):
                    self.assertNotIn("(", part.text)
                    self.assertLessEqual(len(part.scans), len(program.scans))

    def test_great_ones_without_repeats(self):
        program = Program(" ".join([f"{k}-{BIG - k} {BIG}-{k}" for k in range(20)]))
        accesses = program.accesses
        for many in [0, 1, 2, BIG, BIG + 1, BIG + 2, 7 * BIG + 12345, accesses // 2, accesses - 1, accesses]:
            head, tail = self.check(program, many)
            self.assertNotIn("(", head.text + tail.text)
            self.assertLessEqual(max(len(head.scans), len(tail.scans)), 40)
            self.assertEqual(summary_of(head) + summary_of(tail), summary_of(program))
            if many:
                self.assertEqual(address_at(head, many - 1), address_at(program, many - 1))
            if many < accesses:
                self.assertEqual(address_at(tail, 0), address_at(program, many))

    def test_great_repeats(self):
        for form in LEVELS:
            program = Program(form.replace("N", str(BIG)))
            whole, accesses = summary_of(program), program.accesses
            for _, many in same_places(form, 5, BIG)[::7]:
                head, tail = self.check(program, many)
                self.assertEqual(summary_of(head) + summary_of(tail), whole)
                self.assertEqual(address_at(tail, 0), address_at(program, many))
                self.assertEqual(address_at(tail, accesses - many - 1), address_at(program, accesses - 1))
                if many:
                    self.assertEqual(address_at(head, many - 1), address_at(program, many - 1))

    def test_at_the_ends(self):
        for text in [*TEXTS, f"( ( 0-{BIG} ){BIG} 5 ){BIG}"]:
            program = Program(text)
            head, tail = self.check(program, 0)
            self.assertEqual([head.accesses, tail.accesses], [0, program.accesses])
            head, tail = self.check(program, program.accesses)
            self.assertEqual([head.accesses, tail.accesses], [program.accesses, 0])

    def test_arguments_stay(self):
        program = Program("( 0-3 5 )4 7")
        told = [part.text for part in parted(program, 7)]
        self.assertEqual(told, [part.text for part in parted(program, 7)])
        self.assertEqual(program.text, "( 0-3 5 )4 7")


class SmallProgramsTest(unittest.TestCase):
    def test_each_access(self):
        for text in TEXTS + random_texts(24, 150, longest=90):
            program, accesses = Program(text), expanded(text)
            distances = distances_in(accesses)
            for index, address in enumerate(accesses):
                self.assertEqual(address_at(program, index), address)
                self.assertEqual(last_before(program, index), last_in(accesses, index))
                self.assertEqual(distance_at(program, index), distances[index])

    def test_each_address(self):
        for text in TEXTS + random_texts(25, 200, longest=90):
            program, accesses = Program(text), expanded(text)
            for address in range(16):
                places = [index for index, read in enumerate(accesses) if read == address]
                self.assertEqual(count_reads(program, address), len(places))
                self.assertEqual([nth_read(program, address, k) for k in range(len(places))], places)
                with self.assertRaises(InvalidIndex):
                    nth_read(program, address, len(places))

    def test_never_read(self):
        for text in [*TEXTS, f"( ( 5 ){BIG} 0-3 ){BIG}"]:
            for address in (20, BIG, FAR):
                self.assertEqual(count_reads(Program(text), address), 0)
                for index in (0, 1, BIG, None, -1):
                    with self.assertRaises(InvalidIndex):
                        nth_read(Program(text), address, index)

    def test_more_scans_than_a_text_may_have(self):
        program = Program("( 0-3 1 )3") * 2
        for k in range(60):
            program = program + Program(f"{k % 5} {k % 7}-2" if k % 7 != 2 else "3")
        accesses = expanded(program.text)
        for index in range(0, len(accesses), 5):
            self.assertEqual(address_at(program, index), accesses[index])
            self.assertEqual(last_before(program, index), last_in(accesses, index))
            self.assertEqual(written(parted(program, index)[1]), accesses[index:])


class GreatProgramsTest(unittest.TestCase):
    def test_any_round_at_each_level(self):
        for form in LEVELS:
            few, many = 5, BIG
            small, great = Program(form.replace("N", str(few))), Program(form.replace("N", str(many)))
            pairs = same_places(form, few, many)
            self.assertEqual(pairs[-1], (small.accesses - 1, great.accesses - 1))
            for one, two in pairs[::max(1, len(pairs) // 60)] + pairs[:4] + pairs[-4:]:
                address = address_at(small, one)
                self.assertEqual(address_at(great, two), address)
                self.assertEqual(distance_at(great, two), distance_at(small, one))
                self.check_last(great, two, address)

    def check_last(self, program, index, address):
        """Holds last_before, count_reads and nth_read against one another."""
        head = parted(program, index)[0]
        many = count_reads(head, address)
        self.assertEqual(nth_read(program, address, many), index)
        last = last_before(program, index)
        if many == 0:
            self.assertIsNone(last)
            self.assertIsNone(distance_at(program, index))
        else:
            self.assertEqual(last, nth_read(program, address, many - 1))
            self.assertEqual(address_at(program, last), address)
            between = parted(head, last + 1)[1]
            self.assertEqual(count_reads(between, address), 0)
            self.assertEqual(distance_at(program, index), profile_of(between).cold + 1)

    def test_reads_of_great_repeats(self):
        for form in LEVELS:
            levels = form.count("N")
            for address in range(10):
                counts = [expanded(form.replace("N", str(k))).count(address) for k in (2, 3)]
                program = Program(form.replace("N", str(BIG)))
                many = count_reads(program, address)
                self.assertEqual(many > 0, counts[0] > 0)
                if levels == 1:
                    self.assertEqual(many, counts[0] + (counts[1] - counts[0]) * (BIG - 2))
                for index in [0, 1, 2, many // 3, many // 2, many - 2, many - 1]:
                    if 0 <= index < many:
                        place = nth_read(program, address, index)
                        self.assertEqual(address_at(program, place), address)
                        self.assertEqual(count_reads(parted(program, place)[0], address), index)
                with self.assertRaises(InvalidIndex):
                    nth_read(program, address, many)

    def test_plain_numbers(self):
        program = Program(f"( ( 0-9 ){BIG} 4 ){BIG} 12-3")
        length = 10 * BIG + 1
        self.assertEqual(count_reads(program, 4), (BIG + 1) * BIG + 1)
        self.assertEqual(count_reads(program, 3), BIG * BIG + 1)
        self.assertEqual(count_reads(program, 12), 1)
        self.assertEqual(nth_read(program, 12, 0), length * BIG)
        self.assertEqual(nth_read(program, 4, BIG), 10 * BIG)
        self.assertEqual(nth_read(program, 4, BIG + 1), length + 4)
        self.assertEqual(nth_read(program, 4, BIG * (BIG + 1)), length * BIG + 8)
        self.assertEqual(nth_read(program, 3, BIG), length + 3)
        for times in (0, 1, 2, BIG // 2, BIG - 1):
            start = times * length
            self.assertEqual([address_at(program, start + k) for k in range(3)], [0, 1, 2])
            self.assertEqual(last_before(program, start + 4), start - 1 if times else None)
            self.assertEqual(distance_at(program, start + 4), 5 if times else None)
            self.assertEqual(distance_at(program, start + 5), 10 if times else None)
            self.assertEqual(last_before(program, start + 3), start - 8 if times else None)
            self.assertEqual(distance_at(program, start + 15), 10)
            self.assertEqual(last_before(program, start + 10 * BIG), start + 10 * BIG - 6)
            self.assertEqual(distance_at(program, start + 10 * BIG), 6)
        self.assertEqual(distance_at(program, length * BIG), None)
        self.assertEqual([distance_at(program, length * BIG + k) for k in (3, 8, 9)], [5, 9, 10])

    def test_great_scans(self):
        program = Program(f"( 0-{BIG} {BIG}-0 ){BIG}")
        self.assertEqual([address_at(program, k) for k in (0, BIG, BIG + 1, 2 * BIG + 1)], [0, BIG, BIG, 0])
        self.assertEqual([distance_at(program, k) for k in (5, BIG, BIG + 1, BIG + 8)], [None, None, 1, 8])
        self.assertEqual([last_before(program, k) for k in (BIG, BIG + 1, BIG + 8)], [None, BIG, BIG - 7])
        end = program.accesses - 1
        self.assertEqual(end, 2 * (BIG + 1) * BIG - 1)
        self.assertEqual([address_at(program, end), distance_at(program, end), last_before(program, end)],
                         [0, BIG + 1, end - 2 * BIG - 1])
        self.assertEqual(count_reads(program, 77), 2 * BIG)
        self.assertEqual(nth_read(program, 77, 2 * BIG - 1), end - 77)

    def test_forty_scans_within_five_repeats(self):
        words = [f"{k % 7}-{k % 5 + 7}" for k in range(40)]
        text = f"( {words[0]} ( {words[1]} ( ( ( {' '.join(words[2:38])} )N )N {words[38]} )N )N {words[39]} )N"
        program = Program(text.replace("N", str(BIG)))
        self.assertGreater(program.accesses, 10 ** 150)
        small = Program(text.replace("N", "3"))
        pairs = same_places(text, 3, BIG)
        for one, two in pairs[::len(pairs) // 40] + pairs[-3:]:
            address = address_at(small, one)
            self.assertEqual(address_at(program, two), address)
            self.assertEqual(distance_at(program, two), distance_at(small, one))
            self.check_last(program, two, address)
        for address in range(12):
            self.assertGreater(count_reads(program, address), BIG)

    def test_ends(self):
        for text in (f"( 0-{BIG} ){BIG}", "0-9", f"( ( ( 5 ){BIG} 3 ){BIG} 9-4 ){BIG}"):
            program = Program(text)
            self.assertEqual(address_at(program, program.accesses - 1), program.scans[-1][1])
            for index in (program.accesses, program.accesses + 1, FAR * FAR):
                for function in (address_at, last_before, distance_at):
                    with self.assertRaises(InvalidIndex):
                        function(program, index)


class WrongArgumentsTest(unittest.TestCase):
    def setUp(self):
        self.program = Program("( 4-9 5 )2")

    def tearDown(self):
        self.assertEqual(self.program, Program("( 4-9 5 )2"))

    def test_program(self):
        calls = [(written, ()), (parted, (0,)), (address_at, (0,)), (last_before, (0,)), (distance_at, (0,)),
                 (count_reads, (0,)), (nth_read, (0, 0))]
        for value in [*ODD, 0, 1, "0-3", Program, [(0, 3)], summary_of(self.program)]:
            for function, rest in calls:
                with self.assertRaises(InvalidProgram, msg=value):
                    function(value, *rest)
                with self.assertRaises(InvalidProgram, msg=value):
                    function(value, *[None for _ in rest])

    def test_many(self):
        for value in [*NO_NUMBERS, 15, 16, BIG, FAR]:
            with self.assertRaises(InvalidNumber, msg=value):
                parted(self.program, value)
        for value in [*NO_NUMBERS, 1]:
            with self.assertRaises(InvalidNumber, msg=value):
                parted(Program(""), value)
        self.assertEqual(parted(self.program, 14)[0], self.program)
        self.assertEqual([part.text for part in parted(Program(""), 0)], ["", ""])

    def test_index(self):
        for function in (address_at, last_before, distance_at):
            for value in [*NO_NUMBERS, 14, 15, FAR]:
                with self.assertRaises(InvalidIndex, msg=value):
                    function(self.program, value)
            for value in [0, 1, None]:
                with self.assertRaises(InvalidIndex, msg=value):
                    function(Program(""), value)

    def test_address(self):
        for value in NO_NUMBERS:
            for program in (self.program, Program("")):
                with self.assertRaises(InvalidAddress, msg=value):
                    count_reads(program, value)
                for index in (0, None, -1, 99):
                    with self.assertRaises(InvalidAddress, msg=value):
                        nth_read(program, value, index)

    def test_index_of_a_read(self):
        for address, many in ((4, 2), (5, 4), (9, 2), (3, 0), (10, 0), (FAR, 0)):
            self.assertEqual(count_reads(self.program, address), many)
            for value in [*NO_NUMBERS, many, many + 1, FAR]:
                with self.assertRaises(InvalidIndex, msg=value):
                    nth_read(self.program, address, value)
        self.assertEqual(count_reads(Program(""), 0), 0)
        with self.assertRaises(InvalidIndex):
            nth_read(Program(""), 0, 0)

    def test_several_wrong_arguments(self):
        for value in (None, "", [], -1):
            with self.assertRaises(InvalidProgram):
                nth_read(value, value, value)
            with self.assertRaises(InvalidAddress):
                nth_read(self.program, value, value)
            with self.assertRaises(InvalidIndex):
                nth_read(self.program, 4, value)
        with self.assertRaises(InvalidProgram):
            written(Program)
