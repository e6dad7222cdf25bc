import itertools
import random
import unittest

from plain import (
    BIG, FAR, NO_NUMBERS, ODD, distances_in, expanded, folded, misses_in, pieces_of, random_texts, straight_on)
from scanmisses.errors import InvalidNumber, InvalidProgram, ScanError
from scanmisses.misses import missed
from scanmisses.profiles import Profile
from scanmisses.programs import Program
from scanmisses.sets import block_profile, set_classes, set_misses, set_program, worst_set
from scanmisses.steps import written
from scanmisses.summaries import profile_of

TEXTS = [
    "", "0", "7", "0-3", "3-0", "2-9 4", "( 0-9 )2", "( 0-3 3-0 )5", "0-9 5-14", "( 1 )2", "( ( 12-9 3 )2 5-6 )3 11",
    "5 ( 6 ( 7-9 ( 8-6 )2 4 )3 )2 1", "( 0 )2 ( 0 )2", "4-6 6-4 5 5", "5 6", "0-7 16-9 ( 8 )2", "( ( 3 )2 )2 5",
    "30-2 ( 17-20 ( 23 24 )2 )3", "( ( 1 3 )2 5 )2 2-4",
]
FORMS = [
    "( 0-9 )N", "( 0-6 9-3 )N 5", "( ( 0-7 )N 11-4 )N", "( 3 ( 5-8 12-6 )N )N 2-7", "( ( ( 2-5 )N 9-4 )N 3 )N",
    "( 0-15 ( 14 )N ( 7-3 )N )N",
]


def words_of_set(text, sets, number):
    """The text of what a set reads, put together scan by scan."""
    def scan(word):
        own = own_accesses(expanded(word), sets, number)
        if not own:
            return []
        return [f"{own[0]}-{own[-1]}" if own[0] != own[-1] else str(own[0])]
    return " ".join(folded(text, scan, lambda body, word: ["(", *body, word] if body else []))


def own_accesses(accesses, sets, number):
    return [address // sets for address in accesses if address % sets == number]


class ExamplesTest(unittest.TestCase):
    def test_examples_of_the_document(self):
        ten = Program("( 0-9 )2")
        self.assertEqual(
            [(first, last, part.text) for first, last, part in set_classes(ten, 4)],
            [(0, 1, '( 0-2 )2'), (2, 3, '( 0-1 )2')])
        self.assertEqual(
            [set_misses(ten, 4, 2), set_misses(ten, 1, 8), worst_set(ten, 4, 2), set_program(ten, 8, 7).text,
             block_profile(ten, 4).pieces],
            [16, 20, (6, 0), '( 0 )2', [(1, 1, 14), (3, 3, 3)]])

    def test_modules(self):
        for function in (set_program, set_classes, set_misses, worst_set, block_profile):
            self.assertEqual(function.__module__, "scanmisses.sets")


class SetProgramTest(unittest.TestCase):
    def test_words_scan_by_scan(self):
        for text in TEXTS + random_texts(61, 120, top=14):
            program, accesses = Program(text), expanded(text)
            for sets in range(1, 13):
                many = 0
                for number in range(sets):
                    part = set_program(program, sets, number)
                    self.assertIsInstance(part, Program)
                    self.assertEqual(part.text, words_of_set(text, sets, number), (text, sets, number))
                    self.assertEqual(written(part), own_accesses(accesses, sets, number))
                    many += part.accesses
                self.assertEqual(many, len(accesses))
            self.assertEqual(set_program(program, 1, 0), program)
            self.assertEqual(program.text, text)

    def test_nothing_left(self):
        for text, sets, number in (("0-3", 9, 4), ("( 0-3 )2", 9, 4), ("( ( 3 )2 5 )4 ( ( 7 )2 )2", 9, 6), ("", 3, 1)):
            self.assertEqual(set_program(Program(text), sets, number).text, "")
        self.assertEqual(set_program(Program("( ( 3 )2 5 )4 ( ( 7 )2 3 )2"), 9, 5).text, "( 0 )4")
        self.assertEqual(set_program(Program("( ( 3 )2 5 )4 ( ( 7 )2 3 )2"), 9, 3).text, "( ( 0 )2 )4 ( 0 )2")
        self.assertEqual(set_program(Program("( ( ( 3 )7 )2 )4"), 9, 4).text, "")

    def test_directions(self):
        program = Program("0-20 20-0 4-5 5-4 4-8 8-4")
        self.assertEqual(set_program(program, 4, 0).text, "0-5 5-0 1 1 1-2 2-1")
        self.assertEqual(set_program(program, 4, 1).text, "0-4 4-0 1 1 1 1")
        self.assertEqual(set_program(program, 4, 2).text, "0-4 4-0 1 1")

    def test_more_sets_than_addresses(self):
        for text in TEXTS:
            for sets in (40, 1000, BIG):
                for number in range(33):
                    self.assertEqual(set_program(Program(text), sets, number).text, words_of_set(text, sets, number))
                self.assertEqual(set_program(Program(text), sets, sets - 1).text, "")

    def test_great_addresses(self):
        program = Program(f"( 0-{BIG} {BIG - 5}-3 )7 {BIG}")
        half = 5 * 10 ** 29
        self.assertEqual(set_program(program, BIG, 0).text, "( 0-1 )7 1")
        self.assertEqual(set_program(program, BIG, 3).text, "( 0 0 )7")
        self.assertEqual(set_program(program, BIG, BIG - 1).text, "( 0 )7")
        self.assertEqual(set_program(program, half, 0).text, "( 0-2 1 )7 2")
        self.assertEqual(set_program(program, half, half - 5).text, "( 0-1 1-0 )7")
        self.assertEqual(set_program(program, half, half - 4).text, "( 0-1 0 )7")
        self.assertEqual(set_program(program, 10, 0).text, f"( 0-{BIG // 10} {BIG // 10 - 1}-1 )7 {BIG // 10}")
        far = Program("5-9").moved(FAR)
        self.assertEqual([set_program(far, 10 ** 29, k).scans for k in (4, 5, 9, 10)],
                         [[], [(10 ** 70, 10 ** 70)], [(10 ** 70, 10 ** 70)], []])

    def test_spread_program(self):
        for text in TEXTS + random_texts(62, 30):
            for width in (1, 2, 5, 10 ** 28, BIG):
                for number in {0, width // 2, width - 1}:
                    self.assertEqual(set_program(Program(text).spread(width), width, number).text, text)

    def test_backwards_moved_mirrored(self):
        for text in TEXTS + random_texts(63, 30, top=12):
            program = Program(text)
            for sets in range(1, 8):
                for number in range(sets):
                    part = set_program(program, sets, number)
                    self.assertEqual(set_program(~program, sets, number), ~part)
                    self.assertEqual(set_program(program.moved(7 * sets), sets, number), part.moved(7))
                    other = set_program(program.mirrored(70 * sets - 1), sets, sets - 1 - number)
                    self.assertEqual(other, part.mirrored(69))


class SetClassesTest(unittest.TestCase):
    def check(self, program, sets, rows):
        """Holds the classes against one another and against set_program at some sets of each of them."""
        self.assertIsInstance(rows, list)
        self.assertEqual([rows[0][0], rows[-1][1]], [0, sets - 1])
        for one, two in itertools.pairwise(rows):
            self.assertEqual(one[1] + 1, two[0])
            self.assertNotEqual(one[2], two[2])
        for row in rows:
            self.assertIsInstance(row, tuple)
            first, last, part = row
            self.assertLessEqual(first, last)
            for number in {first, min(first + 1, last), (first + last) // 2, max(first, last - 1), last}:
                self.assertEqual(set_program(program, sets, number), part)

    def test_each_set(self):
        for text in TEXTS + random_texts(64, 80, top=14):
            program = Program(text)
            for sets in range(1, 13):
                texts = [words_of_set(text, sets, number) for number in range(sets)]
                expected = []
                for part, numbers in itertools.groupby(range(sets), key=lambda number: texts[number]):
                    numbers = list(numbers)
                    expected.append((numbers[0], numbers[-1], part))
                rows = set_classes(program, sets)
                self.assertEqual([(first, last, part.text) for first, last, part in rows], expected, (text, sets))
                self.check(program, sets, rows)

    def test_great_numbers(self):
        rnd = random.Random(65)
        for top in (30, 10 ** 6, BIG):
            for _ in range(60):
                words = [f"{a}-{b}" if a != b else str(a) for a, b in [
                    (rnd.randint(0, top), rnd.randint(0, top)) for _ in range(rnd.randint(1, 8))]]
                cut = rnd.randint(0, len(words) - 1)
                program = Program(" ".join([*words[:cut], "(", *words[cut:], f"){BIG}"]))
                for sets in {1, 2, rnd.randint(1, top), rnd.randint(1, BIG), top, BIG - 1, BIG}:
                    rows = set_classes(program, sets)
                    self.check(program, sets, rows)
                    reads = [(last - first + 1) * part.accesses for first, last, part in rows]
                    self.assertEqual(sum(reads), program.accesses)

    def test_empty_program(self):
        for sets in (1, 2, BIG):
            self.assertEqual(set_classes(Program(""), sets), [(0, sets - 1, Program(""))])

    def test_unlike_scans_with_equal_parts(self):
        self.assertEqual([row[:2] for row in set_classes(Program("5 6"), 8)], [(0, 4), (5, 6), (7, 7)])
        self.assertEqual([row[:2] for row in set_classes(Program("4 6"), 8)],
                         [(0, 3), (4, 4), (5, 5), (6, 6), (7, 7)])
        self.assertEqual([row[:2] for row in set_classes(Program("0-3 4-7"), 8)], [(0, 7)])
        self.assertEqual([row[:2] for row in set_classes(Program("0-3 7-4 ( 8-9 10 15-11 )2"), 8)], [(0, 7)])

    def test_spread_program(self):
        for text in TEXTS:
            for width in (1, 3, BIG):
                self.assertEqual(set_classes(Program(text).spread(width), width), [(0, width - 1, Program(text))])

    def test_returned_lists_are_new(self):
        program = Program("( 0-9 )2")
        rows = set_classes(program, 4)
        rows.pop()
        self.assertEqual(len(set_classes(program, 4)), 2)


class SetMissesTest(unittest.TestCase):
    def test_sets_that_are_played(self):
        for text in TEXTS + random_texts(66, 30, top=12):
            program, accesses = Program(text), expanded(text)
            for sets in range(1, 10):
                own = [own_accesses(accesses, sets, number) for number in range(sets)]
                for ways in [0, 1, 2, 3, 4, 7, 20]:
                    misses = [misses_in(row, ways) for row in own]
                    self.assertEqual(set_misses(program, sets, ways), sum(misses), (text, sets, ways))
                    worst = max(misses)
                    self.assertEqual(worst_set(program, sets, ways), (worst, misses.index(worst)), (text, sets, ways))

    def test_each_number_of_ways(self):
        for text in TEXTS[-6:]:
            program, accesses = Program(text), expanded(text)
            for sets, ways in itertools.product(range(1, 10), range(21)):
                misses = [misses_in(own_accesses(accesses, sets, number), ways) for number in range(sets)]
                self.assertEqual(set_misses(program, sets, ways), sum(misses))
                self.assertEqual(worst_set(program, sets, ways), (max(misses), misses.index(max(misses))))

    def test_one_set(self):
        for text in TEXTS + random_texts(67, 60):
            program, profile = Program(text), profile_of(Program(text))
            for ways in [*range(8), FAR]:
                self.assertEqual(set_misses(program, 1, ways), profile(ways))
                self.assertEqual(worst_set(program, 1, ways), (profile(ways), 0))

    def test_great_repeats(self):
        for form in FORMS:
            levels, forms = form.count("N"), form.replace("N", "{}")
            great = [BIG - 3 * k for k in range(levels)]
            program = Program(forms.format(*great))
            for sets, ways in itertools.product((1, 2, 3, 4, 7), (0, 1, 2, 3, 5)):
                expected = straight_on(
                    lambda times: [misses_in(own_accesses(expanded(forms.format(*times)), sets, number), ways)
                                   for number in range(sets)], levels, 2, great)
                self.assertEqual(set_misses(program, sets, ways), sum(expected), (form, sets, ways))
                worst = max(expected)
                self.assertEqual(worst_set(program, sets, ways), (worst, expected.index(worst)), (form, sets, ways))

    def test_great_addresses(self):
        for form in FORMS:
            plain = Program(form.replace("N", str(BIG)))
            for width, ways in itertools.product((1, 3, 10 ** 28), (0, 1, 2, 5)):
                # Each set reads what the plain program does.
                self.assertEqual(set_misses(plain.spread(width), width, ways), width * profile_of(plain)(ways))
                self.assertEqual(worst_set(plain.spread(width), width, ways), (profile_of(plain)(ways), 0))
                # Each set keeps so many blocks.
                for sets in (1, 2, 5):
                    self.assertEqual(set_misses(plain.spread(width * sets), sets, ways * width),
                                     width * sets * profile_of(plain)(ways))

    def test_great_numbers_of_sets(self):
        program = Program(f"( 0-{BIG} 5 )10")
        self.assertEqual(set_misses(program, BIG, 0), 10 * (BIG + 2))
        self.assertEqual(set_misses(program, BIG, 1), BIG - 1 + 20)
        self.assertEqual(set_misses(program, BIG, 2), BIG + 1)
        self.assertEqual(worst_set(program, BIG, 0), (20, 0))
        self.assertEqual(worst_set(program, BIG, 1), (20, 0))
        self.assertEqual(worst_set(program, BIG, 2), (2, 0))
        self.assertEqual(worst_set(Program(f"3-{BIG} ( 7-9 )4"), BIG, 0), (5, 7))
        self.assertEqual(worst_set(Program(f"3-{BIG} ( 7-9 )4"), BIG, 1), (1, 0))
        self.assertEqual(worst_set(Program("3-90 ( 7-9 )4"), BIG, 1), (1, 3))
        self.assertEqual(worst_set(Program(""), BIG, 1), (0, 0))
        self.assertEqual(worst_set(Program("5"), BIG, FAR), (1, 5))

    def test_backwards_moved_mirrored(self):
        for text in TEXTS + random_texts(68, 30, top=12):
            program = Program(text)
            for sets, ways in itertools.product((1, 2, 3, 5), (0, 1, 2, 3)):
                told = set_misses(program, sets, ways)
                self.assertEqual(set_misses(~program, sets, ways), told)
                self.assertEqual(worst_set(~program, sets, ways), worst_set(program, sets, ways))
                self.assertEqual(set_misses(program.moved(23), sets, ways), told)
                self.assertEqual(set_misses(program.mirrored(101), sets, ways), told)
                self.assertEqual(worst_set(program.moved(23), sets, ways)[0], worst_set(program, sets, ways)[0])
                self.assertEqual(worst_set(program.moved(sets * FAR), sets, ways), worst_set(program, sets, ways))
                wide = program.spread(4)
                self.assertEqual(set_misses(wide, 4 * sets, ways), 4 * told)


class BlockProfileTest(unittest.TestCase):
    def check(self, text, width):
        blocks = [address // width for address in expanded(text)]
        profile = block_profile(Program(text), width)
        self.assertIsInstance(profile, Profile)
        self.assertEqual(profile.cold, len(set(blocks)))
        self.assertEqual(profile.pieces, pieces_of(distances_in(blocks)), (text, width))

    def test_block_by_block(self):
        for text in TEXTS + random_texts(69, 60, top=30):
            for width in range(1, 26):
                self.check(text, width)

    def test_longer_scans(self):
        for text in ["0-99 99-0", "( 7-61 40-3 )3", "120-5 ( 6-90 )2", "13 ( 99-20 ( 50-70 )2 )2"]:
            for width in (1, 2, 3, 7, 10, 25, 64, 200):
                self.check(text, width)

    def test_great_widths(self):
        for text in TEXTS:
            profile = block_profile(Program(text), BIG)
            many = Program(text).accesses
            self.assertEqual([profile.cold, profile.accesses], [min(1, many), many])
            self.assertEqual(profile.pieces, [(1, 1, many - 1)] if many > 1 else [])

    def test_width_one(self):
        for text in TEXTS + random_texts(70, 60):
            self.assertEqual(block_profile(Program(text), 1), profile_of(Program(text)))

    def test_great_scans(self):
        profile = block_profile(Program(f"( 0-{BIG - 1} {BIG - 1}-0 ){BIG}"), 10 ** 10)
        blocks = 10 ** 20
        self.assertEqual(profile.cold, blocks)
        self.assertEqual(profile.at(1), 2 * BIG * (BIG - blocks) + 2 * BIG - 1)
        self.assertEqual([profile.at(k) for k in (2, blocks, blocks + 1)], [2 * BIG - 1, 2 * BIG - 1, 0])
        self.assertEqual(profile.accesses, 2 * BIG * BIG)

    def test_great_repeats(self):
        for form in FORMS:
            levels, forms = form.count("N"), form.replace("N", "{}")
            great = [BIG - k for k in range(levels)]
            for width in (1, 2, 3, 5, 16):
                def numbers(times):
                    distances = distances_in([address // width for address in expanded(forms.format(*times))])
                    return [distances.count(k) for k in [None, *range(1, 17)]]
                profile = block_profile(Program(forms.format(*great)), width)
                self.assertEqual([profile.cold] + [profile.at(k) for k in range(1, 17)],
                                 straight_on(numbers, levels, 2, great))
                self.assertEqual(profile(16), profile.cold)

    def test_blocks_of_blocks(self):
        for text in TEXTS + random_texts(71, 60, top=30):
            program = Program(text)
            for one, two in itertools.product((1, 2, 3, 7, BIG), (1, 2, 5, 10 ** 15)):
                if one * two <= BIG:
                    whole, parts = block_profile(program, one * two), block_profile(program.blocks(one), two)
                    # A cache that keeps anything at all keeps a block while a scan stays in it.
                    self.assertEqual([whole(size) for size in range(1, 20)], [parts(size) for size in range(1, 20)])
                    self.assertEqual(whole.accesses, program.accesses)

    def test_spread_and_blocks(self):
        for text in TEXTS + random_texts(72, 40):
            program = Program(text)
            for width in (1, 2, 3, 10 ** 28, BIG):
                profile = block_profile(program.spread(width), width)
                self.assertEqual(profile.accesses, width * program.accesses)
                self.assertEqual([profile(size) for size in range(1, 16)],
                                 [profile_of(program)(size) for size in range(1, 16)])
                self.assertEqual(block_profile(~program.spread(width), width), profile)
                self.assertEqual(block_profile(program.spread(width).moved(5 * width), width), profile)
                self.assertEqual(block_profile(program.spread(width).mirrored(50 * width - 1), width), profile)

    def test_sets_of_blocks(self):
        for text in TEXTS + random_texts(73, 30, top=30):
            program = Program(text)
            for width, sets in itertools.product((1, 2, 3, 7), (1, 2, 3)):
                blocks = [address // width for address in expanded(text)]
                for ways in (1, 2, 4):
                    misses = [misses_in(own_accesses(blocks, sets, k), ways) for k in range(sets)]
                    self.assertEqual(set_misses(program.blocks(width), sets, ways), sum(misses))
                    self.assertEqual(worst_set(program.blocks(width), sets, ways)[0], max(misses))
                for number in range(sets):
                    # An own number of a set of addresses lies in the block that all sets together have there.
                    one = block_profile(set_program(program, sets, number), width)
                    own = [address // (sets * width) for address in expanded(text) if address % sets == number]
                    self.assertEqual(one.cold, len(set(own)))
                    self.assertEqual(one.pieces, pieces_of(distances_in(own)))

    def test_what_misses_sets(self):
        for text in TEXTS + random_texts(74, 20):
            program = Program(text)
            for sets, ways in itertools.product((1, 2, 3), (0, 1, 2, 4)):
                parts = [set_program(program, sets, number) for number in range(sets)]
                self.assertEqual(set_misses(program, sets, ways),
                                 sum(missed(part, ways).accesses for part in parts))


class WrongArgumentsTest(unittest.TestCase):
    def setUp(self):
        self.program = Program("( 0-9 )2")

    def tearDown(self):
        self.assertEqual(self.program, Program("( 0-9 )2"))

    def test_program(self):
        calls = [(set_program, 2), (set_classes, 1), (set_misses, 2), (worst_set, 2), (block_profile, 1)]
        for value in [*ODD, 0, 1, [(0, 3)], Program]:
            for function, many in calls:
                for rest in (1, 0, None):
                    with self.assertRaises(InvalidProgram, msg=value):
                        function(value, *[rest] * many)

    def test_sets(self):
        for value in [*NO_NUMBERS, 0, BIG + 1, FAR]:
            for program in (self.program, Program("")):
                with self.assertRaises(InvalidNumber, msg=value):
                    set_classes(program, value)
                for function in (set_program, set_misses, worst_set):
                    for rest in (0, None, -1):
                        with self.assertRaises(InvalidNumber, msg=value) as caught:
                            function(program, value, rest)
                        self.assertIsInstance(caught.exception, ScanError)
                        self.assertIsInstance(caught.exception, ValueError)
        self.assertEqual(set_program(self.program, BIG, 9).text, "( 0 )2")

    def test_number(self):
        for sets in (1, 4, BIG):
            for value in [*NO_NUMBERS, sets, sets + 1, FAR]:
                for program in (self.program, Program("")):
                    with self.assertRaises(InvalidNumber, msg=value):
                        set_program(program, sets, value)
            set_program(self.program, sets, sets - 1)

    def test_ways(self):
        for value in NO_NUMBERS:
            for function in (set_misses, worst_set):
                for program in (self.program, Program("")):
                    with self.assertRaises(InvalidNumber, msg=value):
                        function(program, 4, value)

    def test_width(self):
        for value in [*NO_NUMBERS, 0, BIG + 1, FAR]:
            for program in (self.program, Program("")):
                with self.assertRaises(InvalidNumber, msg=value):
                    block_profile(program, value)
