import itertools
import random
import unittest

from plain import (
    BIG, FAR, NO_NUMBERS, ODD, distances_in, expanded, firsts_in, lasts_in, misses_in, pieces_of, random_texts,
    tidy_of)
from scanmisses.errors import InvalidNumber, InvalidProgram, InvalidSummary
from scanmisses.profiles import Profile
from scanmisses.programs import Program
from scanmisses.summaries import Summary, between, profile_of, summary_of

TEXTS = [
    "", "0", "7", "0-3", "3-0", "2-9 4", "( 0-3 )5", "( 0-3 3-0 )5", "0-9 5-14", "( 1 )2", "( ( 12-9 3 )2 5-6 )3 11",
    "5 ( 6 ( 7-9 ( 8-6 )2 4 )3 )2 1", "( 0 )2 ( 0 )2", "4-6 6-4 5 5", "( ( ( ( ( 0-2 )2 1 )2 )2 3-1 )2 0 )2",
]


def all_small_texts():
    """Texts of up to three scans of the addresses 0 to 2, also with a repeat over some of them."""
    scans = [f"{first}-{last}" if first != last else str(first) for first in range(3) for last in range(3)]
    for many in range(4):
        for words in itertools.product(scans, repeat=many):
            yield " ".join(words)
            for start, stop in itertools.combinations(range(many + 1), 2):
                body = " ".join(words[start:stop])
                yield " ".join([*words[:start], f"( {body} )3", *words[stop:]])


class PlainTest(unittest.TestCase):
    def check(self, told, accesses):
        """Holds a summary against accesses that are read one by one."""
        distances = distances_in(accesses)
        self.assertEqual(told.firsts, firsts_in(accesses))
        self.assertEqual(told.lasts, lasts_in(accesses))
        self.assertEqual(told.profile.cold, distances.count(None))
        self.assertEqual(told.profile.pieces, pieces_of(distances))


class ExamplesTest(unittest.TestCase):
    def test_examples_of_the_document(self):
        swing, wave = Program("( 0-3 3-0 )5"), Program("0-9 5-14")
        told = summary_of(wave * 2)
        self.assertEqual(
            [told.firsts, told.lasts, told.profile.pieces, told == summary_of(wave) * 2],
            [[(0, 14)], [(14, 0)], [(5, 5, 10), (15, 15, 15)], True])
        far = between([(3, 0), (8, 9)], [(9, 7), (0, 1)])
        often, long = profile_of(wave * 2), profile_of(swing * 10 ** 30)
        self.assertEqual(
            [far.cold, far.pieces, profile_of(swing).pieces, often(6), long(3)],
            [1, [(6, 7, 2)], [(1, 4, 9)], 30, 10000000000000000000000000000003])


class SmallProgramsTest(PlainTest):
    def test_texts(self):
        for text in TEXTS:
            self.check(summary_of(Program(text)), expanded(text))

    def test_all_small_texts(self):
        for text in all_small_texts():
            self.check(summary_of(Program(text)), expanded(text))

    def test_repeats_within_one_another(self):
        for text in random_texts(1, 700):
            self.check(summary_of(Program(text)), expanded(text))

    def test_longer_scans(self):
        for text in random_texts(2, 150, top=25, longest=300):
            self.check(summary_of(Program(text)), expanded(text))

    def test_a_cache_that_is_played(self):
        for text in TEXTS + random_texts(3, 150):
            accesses, profile = expanded(text), profile_of(Program(text))
            for size in range(len(set(accesses)) + 3):
                self.assertEqual(profile(size), misses_in(accesses, size), (text, size))
            self.assertEqual(profile(FAR), len(set(accesses)))

    def test_profile_of(self):
        for text in TEXTS:
            self.assertEqual(profile_of(Program(text)), summary_of(Program(text)).profile)

    def test_backwards(self):
        for text in TEXTS + random_texts(4, 200):
            program = Program(text)
            one, two = summary_of(program), summary_of(~program)
            self.assertEqual([one.firsts, one.lasts, one.profile], [two.lasts, two.firsts, two.profile])
            self.check(two, expanded(text)[::-1])

    def test_spread(self):
        for text in TEXTS + random_texts(5, 100):
            program = Program(text)
            profile = profile_of(program)
            self.check(summary_of(program.spread(3)), expanded(text, 3))
            for width in (1, 2, 7, BIG):
                wide = profile_of(program.spread(width))
                for size in range(12):
                    self.assertEqual(wide(size * width), profile(size) * width)
            self.assertEqual(profile_of(program.moved(BIG)), profile)
            self.assertEqual(profile_of(program.mirrored(BIG)), profile)

    def test_empty_program(self):
        told = summary_of(Program(""))
        self.assertEqual([told.firsts, told.lasts, told.profile], [[], [], Profile(0, [])])
        self.assertEqual(told, told + told)
        self.assertEqual(told, told * BIG)
        self.assertEqual(told, ~told)
        self.assertEqual(told, summary_of(Program("0-3")) * 0)

    def test_forty_scans(self):
        rnd = random.Random(6)
        for top in (8, 40):
            scans = [(rnd.randint(0, top), rnd.randint(0, top)) for _ in range(40)]
            body = " ".join(f"{first}-{last}" if first != last else str(first) for first, last in scans)
            self.check(summary_of(Program(body)), expanded(body))
            self.check(summary_of(Program(f"( {body} )2")), expanded(body) * 2)
            for size in (0, 1, 3, top // 2, top, top + 1):
                two, three = misses_in(expanded(body) * 2, size), misses_in(expanded(body) * 3, size)
                loop = profile_of(Program(f"( {body} ){BIG}"))
                self.assertEqual(loop(size), two + (three - two) * (BIG - 2))

    def test_scans_apart(self):
        scans = [(10 * k, 10 * k + 4)[::1 if k % 3 else -1] for k in range(40)]
        body = " ".join(f"{first}-{last}" for first, last in scans[::2] + scans[1::2])
        self.check(summary_of(Program(f"( {body} )2")), expanded(body) * 2)


class GreatRepeatsTest(PlainTest):
    def at_each(self, text):
        """How often each distance from 1 on occurs, and how often none."""
        distances = distances_in(expanded(text))
        return [distances.count(None)] + [distances.count(distance) for distance in range(1, 10)]

    def told_each(self, program):
        profile = profile_of(program)
        self.assertLessEqual(len(profile.corners), 10)
        self.assertEqual(profile(9), profile.cold)
        return [profile.cold] + [profile.at(distance) for distance in range(1, 10)]

    def check_form(self, form, levels, great):
        """Holds great numbers of times against 2 and 3 at each level, from which on all goes straight."""
        expected = [0] * 10
        for times in itertools.product((2, 3), repeat=levels):
            weight = 1
            for few, many in zip(times, great):
                weight *= many - 2 if few == 3 else 3 - many
            row = self.at_each(form.format(*times))
            expected = [told + weight * new for told, new in zip(expected, row)]
        self.assertEqual(self.told_each(Program(form.format(*great))), expected)

    def test_one_level(self):
        for body in ("0-3", "0-3 3-0", "0 1 0 2", "0-5 3-7 2", "( 0-2 )2 1-4"):
            for many in (2, 3, 4, 5, 1000, BIG):
                self.check_form(f"( {body} ){{}}", 1, (many,))

    def test_levels_within_one_another(self):
        forms = [
            ("( ( 0-2 ){} 1 3-1 ){}", 2), ("0 ( 1 ( 2-4 0 ){} 3-1 ){} 2", 2), ("( ( ( 0-1 ){} 2 ){} 1-3 ){}", 3),
            ("( ( ( ( ( 0 1 ){} 2 ){} 1 ){} 3 ){} 0 2 ){}", 5), ("( 0 ( 1 ( 2 ( 0 ( 1 3 ){} ){} 0 ){} ){} 2 ){}", 5),
        ]
        for form, levels in forms:
            greats = [(2,) * levels, (5,) * levels, (BIG,) * levels, tuple(10 ** (6 * k + 6) for k in range(levels))]
            for great in greats:
                self.check_form(form, levels, great)

    def test_firsts_and_lasts_stay(self):
        for text in random_texts(7, 100):
            few, program = summary_of(Program(text)), Program(text)
            told = summary_of(program * BIG * BIG)
            self.assertEqual([told.firsts, told.lasts], [few.firsts, few.lasts])

    def test_more_than_ten_to_the_150_accesses(self):
        text = f"( ( ( ( ( 0-{BIG} ){BIG} 5 ){BIG} {BIG}-7 ){BIG} ){BIG} 0-9 ){BIG}"
        program = Program(text)
        told = summary_of(program)
        self.assertGreater(program.accesses, 10 ** 150)
        self.assertEqual(told.firsts, [(0, BIG)])
        self.assertEqual(told.lasts, [(9, 0), (10, BIG)])
        self.assertEqual([told.profile.cold, told.profile.accesses], [BIG + 1, program.accesses])
        self.assertEqual([told.profile(BIG + 1), told.profile(BIG) > told.profile.cold], [BIG + 1, True])
        again = summary_of(program * BIG)
        self.assertEqual([again.firsts, again.lasts], [told.firsts, told.lasts])
        self.assertEqual([again.profile.cold, again.profile.accesses], [BIG + 1, program.accesses * BIG])


class SummaryTest(PlainTest):
    def test_sums(self):
        rows = TEXTS + random_texts(8, 25)
        for one, two in itertools.product(rows, rows):
            told = summary_of(Program(one)) + summary_of(Program(two))
            self.assertEqual(told, summary_of(Program(one) + Program(two)))
        for one, two in zip(rows, rows[1:]):
            self.check(summary_of(Program(one)) + summary_of(Program(two)), expanded(one) + expanded(two))

    def test_multiples(self):
        for text in TEXTS + random_texts(9, 150):
            for times in (0, 1, 2, 3, 5):
                told = summary_of(Program(text)) * times
                self.assertEqual(told, summary_of(Program(text) * times))
                self.check(told, expanded(text) * times)
            self.assertEqual(summary_of(Program(text)) * BIG, summary_of(Program(text) * BIG))
            self.assertEqual(summary_of(Program(text)) * BIG * BIG, summary_of(Program(text) * BIG * BIG))

    def test_backwards(self):
        for text in TEXTS + random_texts(10, 150):
            told = summary_of(Program(text))
            self.assertEqual(~told, summary_of(~Program(text)))
            self.assertEqual(~~told, told)
            self.check(~told, expanded(text)[::-1])

    def test_all_together(self):
        one, two = Program("( 0-3 5 )2 7"), Program("( 6-2 )3")
        program = (one + ~two) * 3 + two * BIG + (one * 0)
        told = (summary_of(one) + ~summary_of(two)) * 3 + summary_of(two) * BIG + summary_of(one) * 0
        self.assertEqual(told, summary_of(program))
        self.assertEqual(~(told * 2) + told, summary_of(~(program * 2) + program))

    def test_equality(self):
        rows = [text for text in all_small_texts() if text.count(" ") < 3][::3]
        plain = [(firsts_in(a), lasts_in(a), pieces_of(distances_in(a))) for a in map(expanded, rows)]
        told = [summary_of(Program(text)) for text in rows]
        for one, two in itertools.product(range(len(rows)), repeat=2):
            self.assertIs(told[one] == told[two], plain[one] == plain[two])
            self.assertIs(told[one] != told[two], plain[one] != plain[two])

    def test_equality_of_summaries_that_differ_in_one_thing(self):
        def things(text):
            told = summary_of(Program(text))
            return [told.firsts, told.lasts, told.profile]
        for one, two, alike in [("0-3", "0-3 3-0 0-3", [True, True, False]), ("0 1 0", "1 0 0", [False, True, False]),
                                ("0-2 0 1", "0-2 1 0", [True, False, False])]:
            self.assertEqual([a == b for a, b in zip(things(one), things(two))], alike)
            self.assertIs(summary_of(Program(one)) == summary_of(Program(two)), False)

    def test_equality_with_other_kinds(self):
        for text in ("", "0-3"):
            told = summary_of(Program(text))
            for value in [*ODD, Program(text), profile_of(Program(text)), Summary, told.firsts]:
                self.assertIs(told == value, False)
                self.assertIs(told.__eq__(value), False)
                self.assertIs(told != value, True)

    def test_returned_lists_are_new(self):
        told = summary_of(Program("( 0-3 7 )2"))
        for scans in (told.firsts, told.lasts, told.profile.pieces):
            scans.append(None)
            scans[0] = None
        self.assertEqual([told.firsts, told.lasts], [[(0, 3), (7, 7)], [(7, 7), (3, 0)]])
        self.assertEqual(told, summary_of(Program("( 0-3 7 )2")))
        self.assertIsNot(told.firsts, told.firsts)
        self.assertIsNot(told.lasts, told.lasts)
        back = ~told
        back.firsts.append(None)
        self.assertEqual(back.firsts, told.lasts)

    def test_operands_stay(self):
        one, two = summary_of(Program("( 0-3 7 )2")), summary_of(Program("5-2"))
        told = [one + two, one * 3, ~one]
        self.assertEqual(told, [one + two, one * 3, ~one])
        self.assertEqual([one, two], [summary_of(Program("( 0-3 7 )2")), summary_of(Program("5-2"))])

    def test_lists_are_tidy(self):
        for text in ("0 1 2", "( 2 1 0 )2", "0-3 4-7", "5 4 9 8-7", "0-3 2 1"):
            told = summary_of(Program(text))
            for scans in (told.firsts, told.lasts):
                self.assertEqual(scans, tidy_of([x for scan in scans for x in expanded("{}-{}".format(*scan))]))

    def test_listed_names_are_defined_in_the_class(self):
        for name in ["firsts", "lasts", "__add__", "__mul__", "__invert__", "__eq__"]:
            self.assertIn(name, vars(Summary))
        self.assertTrue(hasattr(summary_of(Program("")), "profile"))
        for value in (Summary, between, summary_of, profile_of):
            self.assertEqual(value.__module__, "scanmisses.summaries")


class WrongArgumentsTest(unittest.TestCase):
    def setUp(self):
        self.told = summary_of(Program("( 0-3 7 )2"))

    def tearDown(self):
        self.assertEqual(self.told, summary_of(Program("( 0-3 7 )2")))

    def test_program(self):
        for value in [*ODD, 0, 1, "0-3", Program, [(0, 3)], self.told, self.told.profile]:
            for function in (summary_of, profile_of):
                with self.assertRaises(InvalidProgram, msg=value):
                    function(value)

    def test_sum(self):
        for value in [*ODD, 0, 1, Summary, Program("0"), self.told.profile, self.told.firsts]:
            for told in (self.told, summary_of(Program(""))):
                with self.assertRaises(InvalidSummary, msg=value):
                    told + value

    def test_multiple(self):
        for value in [*NO_NUMBERS, BIG + 1, self.told]:
            for told in (self.told, summary_of(Program(""))):
                with self.assertRaises(InvalidNumber, msg=value):
                    told * value
