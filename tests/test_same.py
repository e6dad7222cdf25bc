import itertools
import unittest

from plain import BIG, FAR, ODD, distances_in, expanded, firsts_in, lasts_in, misses_in, pieces_of, random_texts
from scanmisses.errors import InvalidProgram
from scanmisses.programs import Program
from scanmisses.same import parting, same_everywhere
from scanmisses.summaries import profile_of, summary_of

# Each row has the same accesses in other words, or at least the same misses everywhere.
ALIKE = [
    ("", ""), ("0-3", "0 1 2 3"), ("0-3 0-3", "( 0-3 )2"), ("( 0-3 )2 0-3", "( 0-3 )3"), ("0-3", "0-1 2-3"),
    ("( 0-3 0-3 )5", "( 0-3 )10"), ("( ( 0 )2 )3", "( 0 )6"), ("0 ( 1 0 )5", "( 0 1 )5 0"), ("3-0", "3-1 0"),
    ("( ( 0-3 3-0 )2 )5", "( 0-3 3-0 )10"), ("( 0 1 )2 0 1", "( 0-1 )3"),
    (f"( ( 0 ){BIG} ){BIG}", f"( ( 0 0 ){BIG // 2} ){BIG}"),
]

# The programs of each row differ in little.
UNLIKE = [
    ("0-3 0-3", "0-3 3-0"), ("0-3 3-0", "3-0 0-3"), ("0-3 3-0", "0-3 3-0 3-0"), ("( 0-3 )5", "( 0-3 )6"), ("", "0"),
    ("0-9 5-14", "0-9 5-13"), ("0-9 5-14", "0-8 5-14"), ("0-9 5-14", "5-14 0-9"), ("0 1", "1 0"), ("0", "1"),
    ("0-3", "3-0"), ("( 0-3 3-0 )5", "( 3-0 0-3 )5"), ("( 0-3 3-0 )5", "( 0-3 )5 ( 3-0 )5"), ("0-3 5", "5 0-3"),
    ("0-5 2", "0-5 3"), ("2 0-5", "3 0-5"), ("0-5", "0-2 4 3 5"), ("0-5", "0 1 2 5 4 3"), ("0-5", "0-4 6"),
    ("0-5", "1-6"), ("0-5", "0-6"), ("5-0", "6-0"), ("0-4 5-9 0-4", "0-4 5-9 1-4 0"), ("7 0-3 7", "7 0-3"),
    (f"( 0-{BIG} ){BIG}", f"( 0-{BIG} ){BIG - 1}"), (f"( 0-{BIG} ){BIG}", f"( 0-{BIG - 1} ){BIG}"),
    (f"0-{BIG}", f"1-{BIG}"), (f"0-{BIG}", f"{BIG}-0"), (f"0-{BIG}", f"0-7 8-77 79 78 80-{BIG}"),
]


def things_of(text):
    """What tells of a program, from its accesses one by one."""
    return things_in(expanded(text))


def things_in(accesses):
    """What tells of the program with these accesses."""
    return (firsts_in(accesses), lasts_in(accesses), pieces_of(distances_in(accesses)))


def small_texts():
    """Half of the texts of up to three scans of the addresses 0 to 2."""
    scans = [f"{first}-{last}" if first != last else str(first) for first in range(3) for last in range(3)]
    return [" ".join(words) for many in range(4) for words in itertools.product(scans, repeat=many)][::2]


def changed_texts(words):
    """The texts in which one scan of some is turned, doubled, cut, put elsewhere or left out."""
    found = []
    for at, word in enumerate(words):
        rest = words[:at] + words[at + 1:]
        ends = [int(number) for number in word.split("-")]
        if len(ends) == 2:
            step = 1 if ends[0] < ends[1] else -1
            found.append(words[:at] + [f"{ends[1]}-{ends[0]}"] + words[at + 1:])
            if abs(ends[0] - ends[1]) > 1:
                found.append(words[:at] + [f"{ends[0]}-{ends[1] - step}"] + words[at + 1:])
        found.append(words[:at] + [word] + words[at:])
        found.extend([rest[:to] + [word] + rest[to:] for to in range(len(words))])
        found.append(rest)
    return [" ".join(row) for row in found]


class PartingTest(unittest.TestCase):
    def check(self, one, two, unlike):
        """Holds both functions against the misses of the programs with what parting puts around them."""
        self.assertIs(same_everywhere(one, two), not unlike)
        self.assertIs(same_everywhere(two, one), not unlike)
        for program, other in ((one, two), (two, one)):
            told = parting(program, other)
            if not unlike:
                self.assertIsNone(told)
                continue
            self.assertIs(type(told), tuple)
            ahead, behind, size = told
            for part in (ahead, behind):
                self.assertIsInstance(part, Program)
                self.assertLessEqual(len(part.scans), 4)
                self.assertNotIn("(", part.text)
            self.assertIs(type(size), int)
            self.assertGreaterEqual(size, 0)
            whole, unlike_whole = ahead + program + behind, ahead + other + behind
            self.assertNotEqual(profile_of(whole)(size), profile_of(unlike_whole)(size), (program.text, other.text))
            if whole.accesses < 200 and unlike_whole.accesses < 200:
                self.assertNotEqual(
                    misses_in(expanded(whole.text), size), misses_in(expanded(unlike_whole.text), size))
            self.assertEqual(parting(program, other)[2], size)

    def test_examples_of_the_document(self):
        loop = Program("( 0-3 )5")
        self.assertEqual(
            [same_everywhere(Program("0-3 0-3"), Program("( 0-3 )2")),
             same_everywhere(Program("0-3 3-0"), Program("3-0 0-3")), parting(loop, loop)], [True, False, None])

    def test_alike(self):
        for one, two in ALIKE:
            self.check(Program(one), Program(two), False)

    def test_unlike(self):
        for one, two in UNLIKE:
            self.check(Program(one), Program(two), True)

    def test_moved_and_mirrored(self):
        for rows, unlike in ((ALIKE, False), (UNLIKE, True)):
            for one, two in rows:
                for shift in (1, BIG, FAR):
                    self.check(Program(one).moved(shift), Program(two).moved(shift), unlike)
                self.check(Program(one).mirrored(FAR), Program(two).mirrored(FAR), unlike)

    def test_spread(self):
        for one, two in [row for row in ALIKE + UNLIKE if str(BIG) not in row[0]]:
            wide = [things_in(expanded(text, 3)) for text in (one, two)]
            for width in (2, 3, BIG):
                self.check(Program(one).spread(width), Program(two).spread(width), wide[0] != wide[1])

    def test_great_repeats(self):
        for one, two in ALIKE:
            self.check(Program(one) * BIG, Program(two) * BIG, False)
            self.check(Program(one) * BIG * BIG, Program(two) * BIG * BIG, False)
            self.check(Program(one) * BIG * BIG, Program(two) * BIG, one != "")

    def test_all_pairs_of_small_programs(self):
        texts = small_texts()
        told = [things_of(text) for text in texts]
        classes = set()
        for one, two in itertools.combinations_with_replacement(range(len(texts)), 2):
            alike = tuple(a == b for a, b in zip(told[one], told[two]))
            if alike not in classes or (one + two) % 37 == 0 or all(alike):
                self.check(Program(texts[one]), Program(texts[two]), not all(alike))
            classes.add(alike)
        # Programs that differ in any one of the three things, and in any two, are among them.
        self.assertEqual(len(classes), 8)

    def test_alike_with_all_programs_around_them(self):
        texts = [text for text in small_texts() if text.count(" ") < 3]
        told = [things_of(text) for text in texts]
        around = ["", "0", "1", "2 0", "0-2", "1 0"]
        for one, two in itertools.combinations(range(len(texts)), 2):
            if told[one] == told[two] and texts[one] != texts[two]:
                for ahead, behind in itertools.product(around, around):
                    for size in range(4):
                        rows = [expanded(ahead) + expanded(texts[at]) + expanded(behind) for at in (one, two)]
                        self.assertEqual(misses_in(rows[0], size), misses_in(rows[1], size))

    def test_repeats_within_one_another(self):
        texts = random_texts(11, 60, top=3, longest=60)
        for one, two in zip(texts, texts[1:]):
            self.check(Program(one), Program(two), things_of(one) != things_of(two))

    def test_one_scan_changed(self):
        for words in (["0-5", "3-8", "9-1"], ["0-3", "3-0", "1-2", "5"], ["4-6", "0", "6-2", "0-1"]):
            text = " ".join(words)
            for other in changed_texts(words):
                self.check(Program(text), Program(other), things_of(text) != things_of(other))
                self.check(Program(f"( {text} )2"), Program(f"( {other} )2"),
                           things_of(f"( {text} )2") != things_of(f"( {other} )2"))
                unlike = summary_of(Program(text) * BIG) != summary_of(Program(other) * BIG)
                self.check(Program(text) * BIG, Program(other) * BIG, unlike)

    def test_one_more_repeat(self):
        for text in ("0", "0-3", "0-3 3-0", "( 0-2 )2 1", "5 ( 3-4 ( 1 )2 )2"):
            for times in (0, 1, 2, 7, BIG - 1):
                self.check(Program(text) * times, Program(text) * (times + 1), True)

    def test_empty_program(self):
        self.check(Program(""), Program(""), False)
        self.check(Program(""), Program("0") * 0, False)
        for text in ("0", "5-9", f"( 0-{BIG} ){BIG}"):
            self.check(Program(""), Program(text), True)

    def test_programs_that_differ_in_one_thing(self):
        rows = [("0-3", "0-3 3-0 0-3", (True, True, False)), ("0-1 2-0", "0 1-0 2-1", (True, False, True)),
                ("0-1 2-0", "1-2 0 1-0", (False, True, True)), ("0", "1", (False, False, True))]
        for one, two, alike in rows:
            self.assertEqual(tuple(a == b for a, b in zip(things_of(one), things_of(two))), alike)
            self.check(Program(one), Program(two), True)
            self.check(~Program(one), ~Program(two), True)

    def test_moved_a_little(self):
        for text in ("0", "0-3", "( 0-3 3-0 )5", f"( 0-{BIG} 7 ){BIG}"):
            for shift in (1, BIG, FAR):
                self.check(Program(text), Program(text).moved(shift), True)

    def test_arguments_stay(self):
        one, two = Program("( 0-3 )5"), Program("3-0")
        for _ in range(2):
            parting(one, two)
            same_everywhere(one, two)
            self.assertEqual([one.text, two.text], ["( 0-3 )5", "3-0"])

    def test_forty_scans(self):
        words = [f"{10 * k}-{10 * k + 7}" for k in range(40)]
        program = Program(" ".join(words)) * BIG * BIG
        for at in (0, 1, 20, 38, 39):
            first, last = words[at].split("-")
            other = Program(" ".join([*words[:at], f"{last}-{first}", *words[at + 1:]])) * BIG * BIG
            self.check(program, other, True)
            self.check(program, Program(" ".join(words)) * BIG * (BIG - 1), True)
            self.check(program, Program(" ".join(words)) * (BIG // 10) * BIG * 10, False)


class WrongArgumentsTest(unittest.TestCase):
    def test_either_argument(self):
        good = Program("0-3")
        for value in [*ODD, 0, 1, "0-3", Program, good.scans, summary_of(good), profile_of(good)]:
            for function in (same_everywhere, parting):
                for program, other in ((value, good), (good, value), (value, value), (Program(""), value)):
                    with self.assertRaises(InvalidProgram, msg=value):
                        function(program, other)
        self.assertEqual(good.text, "0-3")

    def test_module(self):
        for function in (same_everywhere, parting):
            self.assertEqual(function.__module__, "scanmisses.same")
