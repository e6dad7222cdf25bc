import itertools
import random
import unittest

from plain import BIG, FAR, NO_NUMBERS, ODD, distances_in, expanded, random_texts
from scanmisses.errors import InvalidNumber, InvalidPrograms, InvalidSize, ScanError
from scanmisses.misses import missed
from scanmisses.points import program_for
from scanmisses.programs import Program
from scanmisses.splits import best_split, least_whole
from scanmisses.summaries import profile_of

TEXTS = [
    "", "0", "0-3", "( 0-3 )5", "( 0-3 3-0 )5", "0-9 5-14", "( 1 )2", "( 0-2 )2 ( 3-7 )4", "( 0-1 )9 ( 0-5 5-0 )2",
    "( ( 2-5 3 )2 5-6 )3 1", "( 0-5 5-0 )3", "4-6 6-4 5 5", "( 0-6 )3 ( 7-9 9-7 )4", "( 3 )5 ( 0-4 )4",
]


def misses_by_size(text, top):
    """The misses of a program, read access by access, for each size up to top."""
    distances = distances_in(expanded(text))
    return [len([distance for distance in distances if distance is None or distance > size])
            for size in range(top + 1)]


def splits_of(many, size):
    """All tuples of so many sizes that add up to a size, ascending."""
    if many == 1:
        yield (size,)
        return
    for first in range(size + 1):
        for rest in splits_of(many - 1, size - first):
            yield (first, *rest)


class ExamplesTest(unittest.TestCase):
    def test_examples_of_the_document(self):
        hundred, there = Program("( 0-9 )100"), Program("( 0-5 5-0 )50")
        self.assertEqual(
            [best_split([hundred, there], 12), best_split([hundred, there], 6), least_whole([hundred, there], 412),
             least_whole([hundred, there], 15)],
            [(412, (10, 2)), (1006, (0, 6)), 12, None])

    def test_modules(self):
        for function in (best_split, least_whole):
            self.assertEqual(function.__module__, "scanmisses.splits")


class SmallProgramsTest(unittest.TestCase):
    def check(self, texts, beyond=2):
        """Holds both functions against all splits of each size up to beyond all addresses."""
        programs = [Program(text) for text in texts]
        top = sum(len(set(expanded(text))) for text in texts) + beyond
        rows = [misses_by_size(text, top) for text in texts]
        fewest = []
        for size in range(top + 1):
            best = min((sum(row[part] for row, part in zip(rows, sizes)), sizes)
                       for sizes in splits_of(len(texts), size))
            told = best_split(programs, size)
            self.assertEqual(told, best, (texts, size))
            self.assertIsInstance(told, tuple)
            self.assertIsInstance(told[1], tuple)
            fewest.append(best[0])
        for misses in sorted({near for many in fewest for near in (many - 1, many, many + 1)} | {0, FAR}):
            if misses >= 0:
                sizes = [size for size, many in enumerate(fewest) if many <= misses]
                self.assertEqual(least_whole(programs, misses), min(sizes, default=None), (texts, misses))

    def test_one_program(self):
        for text in TEXTS + random_texts(101, 60):
            self.check([text])

    def test_two_programs(self):
        for texts in itertools.product(TEXTS[1:], repeat=2):
            if len(expanded(texts[0] + " " + texts[1])) < 80:
                self.check(texts)
        found = random_texts(102, 80)
        for one, two in zip(found[::2], found[1::2]):
            self.check([one, two])

    def test_three_programs(self):
        rnd = random.Random(103)
        found = [text for text in TEXTS + random_texts(104, 40, top=5) if len(set(expanded(text))) <= 7]
        for _ in range(45):
            self.check(rnd.choices(found, k=3), rnd.choice([0, 1, 4]))

    def test_corners_that_are_not_convex(self):
        # A part that first pays at a greater size than another one of less use.
        for texts in (["( 0-5 )9", "( 0-5 5-0 )4"], ["( 0-7 )5", "( 0-3 )4"], ["( 0-3 )9 ( 0-7 )9", "( 0-4 )6"],
                      ["( 0-5 )4", "( 0-5 )4", "( 0-2 2-0 )3"], ["( 0-1 )3 ( 0-4 )5", "( 0-2 )4 ( 0-5 )3", "( 0-2 )5"]):
            for order in itertools.permutations(texts):
                self.check(order)

    def test_equal_programs(self):
        for text in ("( 0-3 )5", "( 0-3 3-0 )3", "0-9", "( 0-1 )4 ( 0-3 )2"):
            for many in (2, 3):
                self.check([text] * many)
        for text in ("( 0-5 )3", "( 0-5 5-0 )3"):
            program = Program(text)
            self.assertEqual(best_split([program, program], 6)[1], (0, 6))

    def test_empty_program(self):
        empty, loop = Program(""), Program("( 0-3 )5")
        self.assertEqual(best_split([empty], 7), (0, (7,)))
        self.assertEqual(best_split([empty, empty, empty], 7), (0, (0, 0, 7)))
        self.assertEqual(best_split([empty, loop], 9), (4, (0, 9)))
        self.assertEqual(best_split([loop, empty], 9), (4, (4, 5)))
        self.assertEqual(best_split([loop, empty], 3), (20, (0, 3)))
        self.assertEqual([least_whole([empty], 0), least_whole([empty] * 3, 5)], [0, 0])
        self.assertEqual([least_whole([empty, loop], k) for k in (3, 4, 19, 20)], [None, 4, 4, 0])

    def test_what_misses_and_what_is_made(self):
        made = program_for(9, {2: 7, 5: 3, 9: 11})
        told = missed(Program("( 0-3 3-0 )5"), 2)
        for programs in ([made, told], [told, made], [made, made, told]):
            texts = [program.text for program in programs]
            self.check(texts)

    def test_backwards_moved_mirrored(self):
        for one, two in itertools.pairwise(TEXTS + random_texts(105, 20)):
            programs = [Program(one), Program(two)]
            for size in (0, 1, 3, 5, 8, 30):
                told = best_split(programs, size)
                self.assertEqual(best_split([~programs[0], programs[1].moved(FAR)], size), told)
                self.assertEqual(best_split([programs[0].mirrored(BIG), ~programs[1].moved(3)], size), told)
                self.assertEqual(least_whole([~programs[0], ~programs[1]], told[0]), least_whole(programs, told[0]))


class GreatProgramsTest(unittest.TestCase):
    def check(self, programs, size):
        """Holds the best split against the profiles and others: none is better, no lesser one as good."""
        rnd = random.Random(size)
        profiles = [profile_of(program) for program in programs]
        misses, sizes = best_split(programs, size)
        self.assertEqual(sum(sizes), size)
        self.assertGreaterEqual(min(sizes), 0)
        self.assertEqual(misses, sum(profile(part) for profile, part in zip(profiles, sizes)))
        others = []
        corners = sorted({corner for profile in profiles for corner in profile.corners} | {0, 1, size})
        for _ in range(30):
            cuts = sorted(rnd.randint(0, size) for _ in range(len(programs) - 1))
            others.append([high - low for low, high in zip([0, *cuts], [*cuts, size])])
        for one, two in itertools.permutations(range(len(programs)), 2):
            for shift in [1, 2, sizes[one] // 2, sizes[one], *[abs(sizes[two] - corner) for corner in corners]]:
                if 0 < shift <= sizes[one]:
                    other = list(sizes)
                    other[one], other[two] = other[one] - shift, other[two] + shift
                    others.append(other)
        for other in others:
            self.assertEqual(sum(other), size)
            told = (sum(profile(part) for profile, part in zip(profiles, other)), tuple(other))
            self.assertGreaterEqual(told, (misses, sizes))
        return misses

    def check_least(self, programs, misses):
        """Holds the least whole size against best_split for it and for the one below."""
        least = least_whole(programs, misses)
        if least is None:
            self.assertLess(misses, sum(profile_of(program).cold for program in programs))
        else:
            self.assertLessEqual(best_split(programs, least)[0], misses)
            if least > 0:
                self.assertGreater(best_split(programs, least - 1)[0], misses)

    def drawn_programs(self, rnd, many):
        found = []
        for _ in range(many):
            width, top = rnd.choice([1, 10 ** 6, 10 ** 28]), rnd.randint(1, 9)
            words = [f"{a}-{b}" if a != b else f"{a}" for a, b in [
                rnd.choices(range(top + 1), k=2) for _ in range(rnd.randint(1, 5))]]
            cut = rnd.randint(0, len(words) - 1)
            text = " ".join(["(", *words[:cut], "(", *words[cut:], f"){rnd.choice([2, 10 ** 6, BIG])}",
                             f"){rnd.choice([2, 10 ** 15, BIG])}"])
            found.append(Program(text).spread(width))
        return found

    def test_drawn_programs(self):
        rnd = random.Random(106)
        for many in (1, 2, 2, 3, 3, 3):
            for _ in range(8):
                programs = self.drawn_programs(rnd, many)
                top = sum(profile_of(program).cold for program in programs)
                for size in (0, 1, rnd.randint(0, top), top // 2, top - 1, top, top + 5, FAR):
                    misses = self.check(programs, size)
                    for near in (misses - 1, misses, misses + 1, top, top - 1):
                        if near >= 0:
                            self.check_least(programs, near)

    def test_drawn_great_scans(self):
        rnd = random.Random(107)
        for _ in range(12):
            programs = []
            for _ in range(rnd.randint(2, 3)):
                scans = [(rnd.randint(0, 10 ** 28), rnd.randint(0, 10 ** 28)) for _ in range(rnd.randint(1, 8))]
                body = " ".join(f"{first}-{last}" for first, last in scans if first != last)
                programs.append(Program(f"( ( {body} ){BIG} 3-0 ){rnd.choice([2, BIG])}"))
            top = sum(profile_of(program).cold for program in programs)
            for size in (rnd.randint(0, top), top // 3, top):
                misses = self.check(programs, size)
                self.check_least(programs, misses)
                self.check_least(programs, misses + rnd.randint(1, BIG))

    def test_spread_programs(self):
        rnd = random.Random(108)
        for _ in range(25):
            plain = [Program(text) for text in rnd.choices(TEXTS, k=rnd.randint(1, 3))]
            for width in (2, 7, 10 ** 28):
                wide = [program.spread(width) for program in plain]
                for size in (0, 1, 2, 4, 6, 9, 13, 20):
                    misses, sizes = best_split(plain, size)
                    expected = (width * misses, tuple(width * part for part in sizes))
                    self.assertEqual(best_split(wide, width * size), expected)

    def test_greatest_sizes(self):
        loop = Program(f"( 0-{BIG} ){BIG}")
        self.assertEqual(best_split([loop, loop], BIG), ((BIG + 1) * BIG * 2, (0, BIG)))
        self.assertEqual(best_split([loop, loop], BIG + 1), ((BIG + 1) * (BIG + 1), (0, BIG + 1)))
        self.assertEqual(best_split([loop, loop], 2 * BIG + 1), ((BIG + 1) * (BIG + 1), (0, 2 * BIG + 1)))
        self.assertEqual(best_split([loop, loop], 2 * BIG + 2), (2 * BIG + 2, (BIG + 1, BIG + 1)))
        self.assertEqual(best_split([loop, loop], 9 * FAR), (2 * BIG + 2, (BIG + 1, 9 * FAR - BIG - 1)))
        self.assertEqual(least_whole([loop, loop], 2 * BIG + 2), 2 * BIG + 2)
        self.assertEqual(least_whole([loop, loop], 2 * BIG + 1), None)
        self.assertEqual(least_whole([loop, loop], (BIG + 1) * (BIG + 1) - 1), 2 * BIG + 2)
        self.assertEqual(least_whole([loop, loop], (BIG + 1) * (BIG + 1)), BIG + 1)
        self.assertEqual(least_whole([loop, loop], 9 * FAR), 0)

    def test_between_corners(self):
        swing = Program(f"( 0-{BIG} {BIG}-0 ){BIG}")
        falls = 2 * BIG - 1
        for size in (1, 5, 10 ** 20, BIG):
            self.assertEqual(best_split([swing, swing], size)[1], (0, size))
            misses = best_split([swing, swing], size)[0]
            self.assertEqual(least_whole([swing, swing], misses), size)
            self.assertEqual(least_whole([swing, swing], misses + falls - 1), size)
            self.assertEqual(least_whole([swing, swing], misses - 1), size + 1)


class WrongArgumentsTest(unittest.TestCase):
    def setUp(self):
        self.programs = [Program("( 0-3 )5"), Program("0-9 5-14")]

    def test_programs(self):
        one = self.programs[0]
        wrong = [[], [one] * 4, (one,), (one, one), one, [one, None], ["0-3"], [one, "0-3"], [[one]], [(one,)],
                 {one.text: one}, [Program], [profile_of(one)], [one, one, 3], "0-3", None, 0, True]
        for value in wrong + [[one, odd] for odd in ODD]:
            for function in (best_split, least_whole):
                for rest in (3, -1, None):
                    with self.assertRaises(InvalidPrograms, msg=value) as caught:
                        function(value, rest)
                    self.assertIsInstance(caught.exception, ScanError)
                    self.assertIsInstance(caught.exception, ValueError)

    def test_size(self):
        for value in NO_NUMBERS:
            for programs in (self.programs, self.programs[:1], [Program("")]):
                with self.assertRaises(InvalidSize, msg=value):
                    best_split(programs, value)

    def test_misses(self):
        for value in NO_NUMBERS:
            for programs in (self.programs, self.programs[:1], [Program("")]):
                with self.assertRaises(InvalidNumber, msg=value):
                    least_whole(programs, value)

    def test_arguments_stay(self):
        programs = list(self.programs)
        told = [best_split(programs, 7), least_whole(programs, 40)]
        self.assertEqual(told, [best_split(programs, 7), least_whole(programs, 40)])
        self.assertEqual(programs, self.programs)
        self.assertEqual([program.text for program in programs], ["( 0-3 )5", "0-9 5-14"])
