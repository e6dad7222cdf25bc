import random
import unittest

from plain import (
    BIG, FAR, LEVELS, NO_NUMBERS, ODD, depth_of, expanded, missed_in, random_texts, same_places, straight_on)
from scanmisses.errors import InvalidIndex, InvalidNumber, InvalidProgram, InvalidSize, ScanError
from scanmisses.misses import count_misses, missed, nth_miss
from scanmisses.programs import Program
from scanmisses.steps import address_at, count_reads, distance_at, written
from scanmisses.summaries import profile_of

TEXTS = [
    "", "0", "7", "0-3", "3-0", "2-9 4", "( 0-3 )5", "( 0-3 3-0 )5", "0-9 5-14", "( 1 )2", "( ( 12-9 3 )2 5-6 )3 11",
    "5 ( 6 ( 7-9 ( 8-6 )2 4 )3 )2 1", "( 0 )2 ( 0 )2", "4-6 6-4 5 5", "8-2 ( 5-3 )3 4-9", "9-0 3-6 ( 6-3 7 )2",
]

# The first round differs from the others; or only a first round of an inner repeat does, in some outer rounds.
FIRST_ROUNDS = [
    "0-3 ( 0-3 )4", "( 0-3 )4 ( 0-3 )4", "( 0 ( 0-1 )3 )4", "( ( 0-1 )3 2 )4", "( ( 0-1 )3 ( 2-3 )3 )3",
    "( ( 0-2 )3 1 )3", "( ( ( 0-1 )3 2 )3 3 )3", "( ( ( 0-1 )2 ( 1-2 )2 )2 ( 2-0 )2 )2", "2 ( ( ( 0-1 )3 )3 2 )3",
    "( 0 ( 1 ( 2 )3 )3 )3", "( ( ( 3-0 )2 0-4 )2 ( 5 )3 )2", "( ( 0-3 3-0 )3 4 )3",
]

GREAT_LEVELS = [form for form in LEVELS if form.count("N") <= 3] + [
    "( ( ( 0-1 )N 2 )N 3 )N", "( ( 0-2 )N 1 )N ( 3-0 )N", "( ( 4-0 0-4 )N ( ( 1-2 )N 5-3 )N )N",
    "( ( 0-3 )N ( 3-6 )N )N",
]


def sizes_for(accesses):
    """Each size from 0 to beyond all addresses."""
    return range(len(set(accesses)) + 3)


class ExamplesTest(unittest.TestCase):
    def test_examples_of_the_document(self):
        swing = Program("( 0-3 3-0 )5")
        self.assertEqual(
            [written(missed(swing, 3)), count_misses(swing, 3, 12), nth_miss(swing, 3, 6)],
            [[0, 1, 2, 3, 0, 3, 0, 3, 0, 3, 0, 3, 0], 6, 15])

    def test_modules(self):
        for function in (missed, count_misses, nth_miss):
            self.assertEqual(function.__module__, "scanmisses.misses")


class SmallProgramsTest(unittest.TestCase):
    def check_missed(self, text):
        program, accesses = Program(text), expanded(text)
        for size in sizes_for(accesses):
            told = missed(program, size)
            self.assertIsInstance(told, Program)
            self.assertEqual(written(told), [accesses[k] for k in missed_in(accesses, size)], (text, size))
            self.assertEqual(expanded(told.text), written(told))
            self.assertLessEqual(depth_of(told.text), depth_of(text))
            self.assertEqual(missed(program, size), told)
        self.assertEqual(program.text, text)

    def check_each_miss(self, text):
        program, accesses = Program(text), expanded(text)
        for size in sizes_for(accesses):
            indices = missed_in(accesses, size)
            self.assertEqual([nth_miss(program, size, k) for k in range(len(indices))], indices, (text, size))
            with self.assertRaises(InvalidIndex):
                nth_miss(program, size, len(indices))
            for many in [*range(len(accesses) + 3), FAR]:
                expected = len([index for index in indices if index < many])
                self.assertEqual(count_misses(program, size, many), expected, (text, size, many))

    def test_missed(self):
        for text in TEXTS + FIRST_ROUNDS + random_texts(31, 400):
            self.check_missed(text)

    def test_longer_scans(self):
        for text in random_texts(32, 60, top=20, longest=250):
            self.check_missed(text)

    def test_each_miss(self):
        for text in TEXTS + FIRST_ROUNDS + random_texts(33, 60, longest=60):
            self.check_each_miss(text)

    def test_eight_scans_within_three_repeats(self):
        rnd = random.Random(34)
        for _ in range(40):
            words = [f"{a}-{b}" if a != b else f"{a}" for a, b in [rnd.choices(range(7), k=2) for _ in range(8)]]
            cuts = sorted(rnd.sample(range(1, 8), 4))
            text = " ".join(["(", *words[:cuts[0]], "(", *words[cuts[0]:cuts[1]], "(", *words[cuts[1]:cuts[2]], ")2",
                             *words[cuts[2]:cuts[3]], ")3", *words[cuts[3]:], ")2"])
            self.check_missed(text)

    def test_program_backwards_misses_as_often(self):
        for text in TEXTS + FIRST_ROUNDS + random_texts(35, 60):
            program = Program(text)
            for size in sizes_for(expanded(text)):
                self.assertEqual(missed(~program, size).accesses, missed(program, size).accesses)
                self.assertEqual(missed(program, size).accesses, profile_of(program)(size))

    def test_moved_and_mirrored(self):
        for text in TEXTS + FIRST_ROUNDS + random_texts(36, 40):
            program = Program(text)
            for size in sizes_for(expanded(text)):
                told = written(missed(program, size))
                self.assertEqual(written(missed(program.moved(FAR), size)), [FAR + address for address in told])
                self.assertEqual(written(missed(program.mirrored(BIG), size)), [BIG - address for address in told])
                for index in range(0, len(told), 7):
                    place = nth_miss(program, size, index)
                    self.assertEqual(nth_miss(program.moved(FAR), size, index), place)
                    self.assertEqual(nth_miss(program.mirrored(BIG), size, index), place)
                    self.assertEqual(count_misses(program.mirrored(BIG), size, place), index)

    def test_spread(self):
        for text in TEXTS + FIRST_ROUNDS + random_texts(37, 30, longest=60):
            for width in (2, 3, 5):
                program, accesses = Program(text).spread(width), expanded(text, width)
                for size in range(0, len(set(accesses)) + 2, 1 if len(accesses) < 60 else 3):
                    told = [accesses[k] for k in missed_in(accesses, size)]
                    self.assertEqual(written(missed(program, size)), told, (text, width, size))

    def test_empty_program(self):
        for size in (0, 1, BIG):
            self.assertEqual(missed(Program(""), size).text, "")
            for many in (0, 1, FAR):
                self.assertEqual(count_misses(Program(""), size, many), 0)

    def test_all_miss_where_nothing_is_kept(self):
        for text in TEXTS + FIRST_ROUNDS:
            self.assertEqual(written(missed(Program(text), 0)), expanded(text))

    def test_what_is_kept_wholly(self):
        for text in TEXTS + FIRST_ROUNDS:
            told = written(missed(Program(text), FAR))
            self.assertEqual(told, list(dict.fromkeys(expanded(text))))


class GreatProgramsTest(unittest.TestCase):
    def check_around(self, program, size, index):
        """Holds an access against its distance, and the misses up to it and from it on against it."""
        distance = distance_at(program, index)
        misses = distance is None or distance > size
        ahead = count_misses(program, size, index)
        self.assertEqual(count_misses(program, size, index + 1), ahead + misses)
        told = missed(program, size)
        if misses:
            self.assertEqual(nth_miss(program, size, ahead), index)
            self.assertEqual(address_at(told, ahead), address_at(program, index))
        if ahead:
            self.assertLess(nth_miss(program, size, ahead - 1), index)
        if ahead < told.accesses:
            self.assertGreaterEqual(nth_miss(program, size, ahead), index)

    def check_whole(self, program, size):
        """Holds the number of misses against the profile, and the first and the last miss against each other."""
        told, many = missed(program, size), profile_of(program)(size)
        self.assertEqual(told.accesses, many)
        self.assertEqual(count_misses(program, size, program.accesses), many)
        self.assertEqual(count_misses(program, size, program.accesses + 1), many)
        self.assertLessEqual(depth_of(told.text), depth_of(program.text))
        self.assertEqual(nth_miss(program, size, 0), 0)
        last = nth_miss(program, size, many - 1)
        self.assertEqual(count_misses(program, size, last), many - 1)
        self.assertEqual(address_at(program, last), address_at(told, many - 1))
        with self.assertRaises(InvalidIndex):
            nth_miss(program, size, many)

    def test_great_repeats(self):
        for form in GREAT_LEVELS:
            few, many = 4, BIG
            small, great = form.replace("N", str(few)), Program(form.replace("N", str(many)))
            accesses, pairs = expanded(small), same_places(form, few, many)
            for size in sizes_for(accesses):
                self.check_whole(great, size)
                missing = missed_in(accesses, size)
                for one, two in pairs[::max(1, len(pairs) // 12)] + pairs[-2:]:
                    ahead = count_misses(great, size, two)
                    self.assertEqual(count_misses(great, size, two + 1) - ahead, one in missing, (form, size, two))
                    if one in missing:
                        self.assertEqual(nth_miss(great, size, ahead), two)

    def test_numbers_go_straight_on(self):
        for form in GREAT_LEVELS:
            levels, forms = form.count("N"), form.replace("N", "{}")
            for great in ([BIG] * levels, [BIG - k * 10 ** 28 for k in range(levels)]):
                program = Program(forms.format(*great))
                sizes = sizes_for(expanded(form.replace("N", "2")))
                expected = straight_on(
                    lambda times: [len(missed_in(expanded(forms.format(*times)), size)) for size in sizes],
                    levels, 2, great)
                self.assertEqual([missed(program, size).accesses for size in sizes], expected)

    def test_reads_of_what_misses(self):
        for form in GREAT_LEVELS[:8]:
            levels, forms = form.count("N"), form.replace("N", "{}")
            program = Program(form.replace("N", str(BIG)))
            for size in sizes_for(expanded(form.replace("N", "2"))):
                told = missed(program, size)

                def reads(times):
                    accesses = expanded(forms.format(*times))
                    found = [accesses[k] for k in missed_in(accesses, size)]
                    return [found.count(address) for address in range(12)]
                expected = straight_on(reads, levels, 2, [BIG] * levels)
                self.assertEqual([count_reads(told, address) for address in range(12)], expected)

    def test_great_addresses_in_repeats(self):
        rnd = random.Random(38)
        for form in GREAT_LEVELS:
            width = rnd.choice([2, 10 ** 28, 10 ** 28 - 1, 7 * 10 ** 20])
            plain = Program(form.replace("N", str(BIG)))
            program = plain.spread(width)
            pairs = same_places(form, 4, BIG)
            for blocks in sizes_for(expanded(form.replace("N", "2")))[1:-1]:
                whole = missed(plain, blocks).accesses
                self.assertEqual(missed(program, blocks * width).accesses, whole * width)
                for size in (blocks * width, blocks * width - 1, blocks * width + rnd.randrange(width)):
                    self.check_whole(program, size)
                    for _ in range(3):
                        place = rnd.choice(pairs)[1]
                        for inside in (0, width - 1, rnd.randrange(width)):
                            self.check_around(program, size, place * width + inside)

    def test_spread_misses_are_spread(self):
        rnd = random.Random(39)
        for form in GREAT_LEVELS:
            plain, width = Program(form.replace("N", str(BIG))), 10 ** 28
            for size in sizes_for(expanded(form.replace("N", "2")))[:-1]:
                many = profile_of(plain)(size)
                for index in {0, many - 1, many // 2, rnd.randrange(many)}:
                    place = nth_miss(plain, size, index)
                    for inside in (0, width - 1, rnd.randrange(width)):
                        told = nth_miss(plain.spread(width), size * width, index * width + inside)
                        self.assertEqual(told, place * width + inside)

    def test_great_scans(self):
        program = Program(f"( 0-{BIG} {BIG}-0 ){BIG}")
        for size in (1, 2, 10 ** 15, BIG, BIG + 1):
            again = 2 * (BIG + 1 - size)
            self.assertEqual(missed(program, size).accesses, BIG + 1 + again // 2 + again * (BIG - 1))
            self.assertEqual(nth_miss(program, size, BIG), BIG)
            for times in (1, 2, BIG - 1):
                if size <= BIG:
                    first = BIG + 1 + again // 2 + again * (times - 1)
                    self.assertEqual(nth_miss(program, size, first), 2 * (BIG + 1) * times + size)
                    self.assertEqual(nth_miss(program, size, first - 1), 2 * (BIG + 1) * times - 1)
        self.assertEqual(missed(program, BIG + 1).text, f"0-{BIG}")

    def test_sizes_with_hundred_digits(self):
        program = Program(f"( 0-{BIG} 5 ){BIG}").moved(FAR)
        self.assertEqual(written(missed(program, FAR).moved(-FAR).blocks(BIG)), [0, 1])
        self.assertEqual(count_misses(program, FAR, FAR), BIG + 1)
        # In each later round the 5 hits twice, all others miss.
        for rounds in (1, 2, BIG - 1, BIG):
            many = rounds * (BIG + 2)
            self.assertEqual(count_misses(program, BIG, many), BIG + 1 + (rounds - 1) * BIG)
            self.assertEqual(count_misses(program, BIG, many - 1), BIG + 1 + (rounds - 1) * BIG)
        self.assertEqual(count_misses(program, BIG, FAR), BIG + 1 + (BIG - 1) * BIG)

    def test_returned_programs_may_be_passed_on(self):
        program = Program(f"( ( 0-3 3-0 ){BIG} 5 ){BIG}") * BIG
        told = missed(program, 4)
        self.assertEqual(told.accesses, profile_of(program)(4))
        self.assertEqual(missed(told, 0), told)
        again = missed(told, 3)
        self.assertEqual(again.accesses, profile_of(told)(3))
        self.assertEqual(nth_miss(told, 3, again.accesses - 1) < told.accesses, True)


class WrongArgumentsTest(unittest.TestCase):
    def setUp(self):
        self.program = Program("( 0-3 3-0 )5")

    def tearDown(self):
        self.assertEqual(self.program, Program("( 0-3 3-0 )5"))

    def test_program(self):
        for value in [*ODD, 0, 1, [(0, 3)], Program, profile_of(self.program)]:
            for rest in (0, None):
                with self.assertRaises(InvalidProgram, msg=value):
                    missed(value, rest)
                for function in (count_misses, nth_miss):
                    with self.assertRaises(InvalidProgram, msg=value):
                        function(value, rest, rest)

    def test_size(self):
        for value in NO_NUMBERS:
            with self.assertRaises(InvalidSize, msg=value):
                missed(self.program, value)
            for rest in (0, None, -1):
                for function in (count_misses, nth_miss):
                    for program in (self.program, Program("")):
                        with self.assertRaises(InvalidSize, msg=value):
                            function(program, value, rest)

    def test_many(self):
        for value in NO_NUMBERS:
            for program in (self.program, Program("")):
                with self.assertRaises(InvalidNumber, msg=value):
                    count_misses(program, 3, value)

    def test_index(self):
        for value in [*NO_NUMBERS, 13, 14, FAR]:
            with self.assertRaises(InvalidIndex, msg=value) as caught:
                nth_miss(self.program, 3, value)
            self.assertIsInstance(caught.exception, ScanError)
            self.assertIsInstance(caught.exception, ValueError)
        self.assertEqual(nth_miss(self.program, 3, 12), 39)
        for value in (0, 1, None):
            with self.assertRaises(InvalidIndex):
                nth_miss(Program(""), 3, value)

    def test_arguments_stay(self):
        for size in range(6):
            told = [missed(self.program, size).text for _ in range(2)]
            self.assertEqual(told[0], told[1])
            missed(self.program, size).parts = ()
            self.assertEqual(missed(self.program, size).text, told[0])
