import itertools
import random
import unittest

from plain import (
    BIG, FAR, NO_NUMBERS, ODD, distances_in, expanded, missed_in, pieces_of, random_texts, straight_on)
from scanmisses.errors import InvalidProgram, InvalidSizes, ScanError
from scanmisses.levels import level_misses, level_profile, stacked_hits
from scanmisses.misses import missed
from scanmisses.profiles import Profile
from scanmisses.programs import Program
from scanmisses.summaries import profile_of

TEXTS = [
    "", "0", "0-3", "2-9 4", "( 0-3 )5", "( 0-3 3-0 )5", "0-9 5-14", "( 1 )2", "( ( 12-9 3 )2 5-6 )3 11",
    "( 0 )2 ( 0 )2", "4-6 6-4 5 5", "8-2 ( 5-3 )3 4-9", "9-0 3-6 ( 6-3 7 )2", "( ( 0-2 )3 1 )4", "( 0-5 2-3 5-1 )4",
]

# Texts with up to two repeats within one another, for great numbers of times.
FORMS = [
    "( 0-3 )N", "( 0-3 3-0 )N", "( 0-5 2-3 4-1 )N 0-6", "( ( 0-2 )N 1 3-1 )N", "( 0-2 ( 1-3 )N 4 )N", "( ( 2 3-0 )N )N",
    "2 ( ( 0-3 )N ( 4-1 )N 0 )N", "( 0-3 )N ( 2-5 )N 0-1", "( ( 4-0 5 0-2 )N 3-5 1 )N",
]


def behind_one_another(accesses, sizes):
    """What misses each cache, of caches that are played behind one another."""
    found = []
    for size in sizes:
        accesses = [accesses[k] for k in missed_in(accesses, size)]
        found.append(accesses)
    return found


def hits_together(accesses, sizes):
    """How many accesses find their address in each of several caches that keep the latest addresses together."""
    found, kept = [0] * len(sizes), []
    ends = list(itertools.accumulate(sizes))
    for address in accesses:
        if address in kept:
            place = kept.index(address)
            for number, end in enumerate(ends):
                if end - sizes[number] <= place < end:
                    found[number] += 1
            kept.remove(address)
        kept.insert(0, address)
    return found


def lists_of_sizes(top):
    """Lists of one to three sizes: all single ones and pairs, and some of three."""
    yield from ([size] for size in range(top + 2))
    yield from (list(pair) for pair in itertools.product(range(top + 2), repeat=2))
    chosen = sorted({0, 1, 2, top // 2, top - 1 if top else 0, top})
    yield from (list(three) for three in itertools.product(chosen, repeat=3))


class ExamplesTest(unittest.TestCase):
    def test_examples_of_the_document(self):
        swing = Program("( 0-3 3-0 )5")
        self.assertEqual(
            [level_misses(swing, [3, 2]), level_profile(swing, [3]).pieces, stacked_hits(swing, [3, 1])],
            [[13, 5], [(2, 2, 8), (4, 4, 1)], [27, 9]])

    def test_modules(self):
        for function in (level_misses, level_profile, stacked_hits):
            self.assertEqual(function.__module__, "scanmisses.levels")


class SmallProgramsTest(unittest.TestCase):
    def check(self, text, sizes):
        program, accesses = Program(text), expanded(text)
        rows = behind_one_another(accesses, sizes)
        self.assertEqual(level_misses(program, sizes), [len(row) for row in rows], (text, sizes))
        profile = level_profile(program, sizes)
        self.assertIsInstance(profile, Profile)
        self.assertEqual(profile.cold, len(set(rows[-1])))
        self.assertEqual(profile.pieces, pieces_of(distances_in(rows[-1])), (text, sizes))
        self.assertEqual(stacked_hits(program, sizes), hits_together(accesses, sizes), (text, sizes))

    def test_each_size(self):
        for text in TEXTS:
            for sizes in lists_of_sizes(min(6, len(set(expanded(text))))):
                self.check(text, sizes)

    def test_drawn_programs(self):
        rnd = random.Random(41)
        for text in random_texts(42, 250):
            top = len(set(expanded(text))) + 1
            for many in (1, 2, 2, 3, 3, 3):
                sizes = [rnd.randint(0, top) for _ in range(many)]
                self.check(text, sizes)
                self.check(text, sorted(sizes))
                self.check(text, sorted(sizes, reverse=True))

    def test_longer_scans(self):
        rnd = random.Random(43)
        for text in random_texts(44, 60, top=20, longest=200):
            top = len(set(expanded(text))) + 1
            for many in (1, 2, 3, 3):
                self.check(text, [rnd.randint(1, top) for _ in range(many)])

    def test_one_size(self):
        for text in TEXTS + random_texts(45, 60):
            program, profile = Program(text), profile_of(Program(text))
            for size in [*range(9), FAR]:
                self.assertEqual(level_misses(program, [size]), [profile(size)])
                self.assertEqual(level_profile(program, [size]), profile_of(missed(program, size)))
                self.assertEqual(stacked_hits(program, [size]), [profile.accesses - profile(size)])

    def test_hits_together(self):
        for text in TEXTS + random_texts(46, 60):
            program, profile = Program(text), profile_of(Program(text))
            for sizes in itertools.product((0, 1, 2, 5), repeat=3):
                hits = stacked_hits(program, list(sizes))
                self.assertEqual(sum(hits), profile.accesses - profile(sum(sizes)))

    def test_equal_sizes(self):
        for text in TEXTS + random_texts(47, 60):
            program = Program(text)
            for size in range(6):
                told = level_misses(program, [size, size, size])
                self.assertEqual(told, [len(row) for row in behind_one_another(expanded(text), [size] * 3)])
                self.assertEqual(level_misses(program, [0, size, 0]), [program.accesses, told[0], told[0]])

    def test_empty_program(self):
        for sizes in ([0], [3, 0], [BIG, FAR, 1]):
            self.assertEqual(level_misses(Program(""), sizes), [0] * len(sizes))
            self.assertEqual(level_profile(Program(""), sizes), Profile(0, []))
            self.assertEqual(stacked_hits(Program(""), sizes), [0] * len(sizes))

    def test_backwards_moved_mirrored(self):
        for text in TEXTS + random_texts(48, 60):
            program = Program(text)
            for sizes in ([2], [1, 3], [3, 1, 4], [0, 2, 2]):
                told = level_misses(program, sizes)
                self.assertEqual(level_misses(~program, sizes)[0], told[0])
                self.assertEqual(stacked_hits(~program, sizes), stacked_hits(program, sizes))
                for other in (program.moved(BIG), program.mirrored(BIG)):
                    self.assertEqual(level_misses(other, sizes), told)
                    self.assertEqual(level_profile(other, sizes), level_profile(program, sizes))
                    self.assertEqual(stacked_hits(other, sizes), stacked_hits(program, sizes))


class GreatProgramsTest(unittest.TestCase):
    def test_great_repeats(self):
        for form in FORMS:
            levels, forms = form.count("N"), form.replace("N", "{}")
            top = len(set(expanded(form.replace("N", "2"))))
            great = [BIG - 7 * k for k in range(levels)]
            program = Program(forms.format(*great))
            for sizes in itertools.islice(lists_of_sizes(top), 0, None, 7):
                def numbers(times):
                    rows = behind_one_another(expanded(forms.format(*times)), sizes)
                    distances = distances_in(rows[-1])
                    return [len(row) for row in rows] + [distances.count(k) for k in [None, *range(1, 9)]]
                expected = straight_on(numbers, levels, len(sizes) + 1, great)
                self.assertEqual(level_misses(program, sizes), expected[:len(sizes)], (form, sizes))
                profile = level_profile(program, sizes)
                self.assertEqual([profile.cold] + [profile.at(k) for k in range(1, 9)], expected[len(sizes):])
                self.assertEqual(profile(8), profile.cold)

    def test_great_stacks(self):
        for form in FORMS:
            levels, forms = form.count("N"), form.replace("N", "{}")
            program = Program(forms.format(*[BIG] * levels))
            for sizes in ([0], [1, 1, 1], [2, 3], [0, 4, 2], [1, BIG, FAR], [FAR, 1]):
                expected = straight_on(
                    lambda times: hits_together(expanded(forms.format(*times)), sizes), levels, 2, [BIG] * levels)
                self.assertEqual(stacked_hits(program, sizes), expected)

    def test_great_addresses(self):
        rnd = random.Random(49)
        for form in FORMS:
            plain = Program(form.replace("N", str(BIG)))
            top = len(set(expanded(form.replace("N", "2"))))
            for width in (2, 10 ** 28, 10 ** 28 - 1):
                program = plain.spread(width).moved(rnd.choice([0, BIG, FAR]))
                for _ in range(6):
                    sizes = [rnd.randint(0, top + 1) for _ in range(rnd.randint(1, 3))]
                    wide = [width * size for size in sizes]
                    self.assertEqual(level_misses(program, wide), [width * n for n in level_misses(plain, sizes)])
                    self.assertEqual(stacked_hits(program, wide), [width * n for n in stacked_hits(plain, sizes)])
                    one, two = level_profile(plain, sizes), level_profile(program, wide)
                    self.assertEqual([two(width * size) for size in range(top + 2)],
                                     [width * one(size) for size in range(top + 2)])

    def test_sizes_between_blocks(self):
        rnd = random.Random(50)
        for form in FORMS:
            levels, width = form.count("N"), 5
            top = width * len(set(expanded(form.replace("N", "2"))))
            program = Program(form.replace("N", str(BIG))).spread(width)
            for many in (1, 2):
                sizes = [rnd.randint(1, top) for _ in range(many)]
                expected = straight_on(
                    lambda times: [len(row) for row in behind_one_another(
                        expanded(form.replace("N", "{}").format(*times), width), sizes)],
                    levels, many + 1, [BIG] * levels)
                self.assertEqual(level_misses(program, sizes), expected, (form, sizes))

    def test_sizes_between_great_blocks(self):
        program = Program(f"( 0-{10 ** 28 - 1} {10 ** 28 - 1}-0 ){BIG}")
        whole = 10 ** 28
        for size in (1, 2, 12345, whole // 2, whole - 1):
            first = whole + (whole - size) + 2 * (whole - size) * (BIG - 1)
            self.assertEqual(level_misses(program, [size])[0], first)
            self.assertEqual(level_misses(program, [size, 0, whole]), [first, first, whole])
            self.assertEqual(sum(stacked_hits(program, [1, size - 1, 0])), program.accesses - first)

    def test_six_scans(self):
        rnd = random.Random(51)
        for _ in range(30):
            top = rnd.choice([7, 12])
            words = [f"{a}-{b}" if a != b else f"{a}" for a, b in [rnd.choices(range(top), k=2) for _ in range(6)]]
            cut = rnd.randint(1, 4)
            form = " ".join(["(", *words[:cut], "(", *words[cut:5], ")N", words[5], ")N"])
            sizes = [rnd.randint(1, top) for _ in range(3)]
            program = Program(form.replace("N", str(BIG)))
            expected = straight_on(
                lambda times: [len(row) for row in behind_one_another(
                    expanded(form.replace("N", "{}").format(*times)), sizes)], 2, 4, [BIG, BIG])
            self.assertEqual(level_misses(program, sizes), expected, (form, sizes))


class WrongArgumentsTest(unittest.TestCase):
    def setUp(self):
        self.program = Program("( 0-3 3-0 )5")

    def test_program(self):
        for value in [*ODD, 0, "0-3", [(0, 3)], Program]:
            for function in (level_misses, level_profile, stacked_hits):
                for sizes in ([1], [], None):
                    with self.assertRaises(InvalidProgram, msg=value):
                        function(value, sizes)

    def test_sizes(self):
        wrong = [None, True, 3, "", "3", (), (1,), (1, 2), {}, {1: 2}, [], [1, 2, 3, 4], [[1]], [(1,)], [1, 2, -1],
                 [-1], [1, None], ["1"], range(2), [1, 2, True], [False], [1, 2, 3, None], Program("")]
        for value in wrong + [[1, odd] for odd in NO_NUMBERS]:
            for program in (self.program, Program("")):
                for function in (level_misses, level_profile, stacked_hits):
                    with self.assertRaises(InvalidSizes, msg=value) as caught:
                        function(program, value)
                    self.assertIsInstance(caught.exception, ScanError)
                    self.assertIsInstance(caught.exception, ValueError)

    def test_sizes_stay(self):
        for sizes in ([3], [3, 2], [0, 5, 1]):
            kept = list(sizes)
            for function in (level_misses, stacked_hits):
                told = function(self.program, sizes)
                again = list(told)
                self.assertIsNot(told, sizes)
                told.append(7)
                self.assertEqual(function(self.program, sizes), again)
            level_profile(self.program, sizes).pieces.append(1)
            self.assertEqual(level_profile(self.program, sizes), level_profile(self.program, kept))
            self.assertEqual(sizes, kept)
        self.assertEqual(self.program, Program("( 0-3 3-0 )5"))
