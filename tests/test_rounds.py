import itertools
import random
import unittest

from plain import (
    BIG, FAR, NO_NUMBERS, ODD, distances_in, expanded, misses_in, pieces_of, random_texts)
from scanmisses.errors import InvalidProgram, InvalidScans, InvalidSize, ScanError
from scanmisses.profiles import Profile
from scanmisses.programs import Program
from scanmisses.rounds import best_directions, direction_changes, round_floor, round_profile
from scanmisses.summaries import profile_of

TEXTS = [
    "", "0", "0-3", "3-0", "0-3 3-0", "0-3 0-3", "2-9 4", "( 0-3 )5", "( 0-3 3-0 )5", "0-9 5-14", "( 1 )2",
    "( ( 12-9 3 )2 5-6 )3 11", "5 ( 6 ( 7-9 ( 8-6 )2 4 )3 )2 1", "( 0 )2 ( 0 )2", "4-6 6-4 5 5", "3 9-2 ( 5-3 )3 4-6",
]


def words_of(bodies, turns):
    """The text of scans of which some are turned."""
    scans = [scan[::-1] if turn else scan for scan, turn in zip(bodies, turns)]
    return " ".join(f"{first}-{last}" if first != last else str(first) for first, last in scans)


def later_misses(accesses, sizes):
    """What a third round misses, by its distances, for each size."""
    late = distances_in(accesses * 3)[2 * len(accesses):]
    return [len([distance for distance in late if distance > size]) for size in sizes]


def best_of_all(bodies, sizes):
    """For each size the first ones of the best directions, each choice read access by access."""
    choices = list(itertools.product((False, True), repeat=len(bodies)))
    rows = [later_misses(expanded(words_of(bodies, turns)), sizes) for turns in choices]
    found = []
    for place in range(len(sizes)):
        misses = [row[place] for row in rows]
        found.append(list(choices[misses.index(min(misses))]))
    return found


def drawn_bodies(rnd, many, top):
    return [(rnd.randint(0, top), rnd.randint(0, top)) for _ in range(many)]


class ExamplesTest(unittest.TestCase):
    def test_examples_of_the_document(self):
        wave = Program("0-9 5-14")
        self.assertEqual(
            [round_profile(Program("0-3")).pieces, round_profile(Program("0-3 3-0")).pieces, round_floor(wave, 6),
             best_directions([(0, 3), (0, 3)], 2)],
            [[(4, 4, 4)], [(1, 4, 2)], 9, [False, True]])
        self.assertEqual(
            direction_changes([(0, 3), (0, 3)]), [(0, [False, False]), (1, [False, True]), (4, [False, False])])

    def test_modules(self):
        for function in (round_profile, round_floor, best_directions, direction_changes):
            self.assertEqual(function.__module__, "scanmisses.rounds")


class RoundProfileTest(unittest.TestCase):
    def test_third_round(self):
        for text in TEXTS + random_texts(81, 300, longest=60):
            accesses = expanded(text)
            distances = distances_in(accesses * 3)[2 * len(accesses):]
            profile = round_profile(Program(text))
            self.assertIsInstance(profile, Profile)
            self.assertEqual([profile.cold, profile.accesses], [0, len(accesses)])
            self.assertEqual(profile.pieces, pieces_of(distances), text)

    def test_more_rounds_of_a_cache_that_is_played(self):
        for text in TEXTS + random_texts(82, 60, longest=60):
            accesses, profile = expanded(text), round_profile(Program(text))
            for size in range(len(set(accesses)) + 2):
                more = misses_in(accesses * 3, size) - misses_in(accesses * 2, size)
                self.assertEqual(profile(size), more)

    def test_rounds_of_repeats(self):
        for text in TEXTS + random_texts(83, 100):
            program = Program(text)
            again = profile_of(program * BIG) + round_profile(program)
            self.assertEqual(profile_of(program * BIG + program), again)
            self.assertEqual(round_profile(program * 7), round_profile(program) * 7)

    def test_great_programs(self):
        for text in (f"( 0-3 ){BIG}", f"( ( 0-{BIG} ){BIG} 5-2 ){BIG}", f"3 ( 9-2 ( 4 ){BIG} ){BIG} {BIG}-0"):
            program = Program(text)
            self.assertEqual(round_profile(program).accesses, program.accesses)
            told = profile_of(program)
            for rounds in (2, 3, 4):
                told = told + round_profile(program)
                self.assertEqual(profile_of(program * rounds), told)

    def test_backwards_moved_mirrored_spread(self):
        for text in TEXTS + random_texts(84, 60):
            program, profile = Program(text), round_profile(Program(text))
            for other in (~program, program.moved(BIG), program.mirrored(BIG)):
                self.assertEqual(round_profile(other), profile)
                self.assertEqual(round_floor(other, 3), round_floor(program, 3))
            for width in (1, 3, 10 ** 28):
                wide = round_profile(program.spread(width))
                for size in range(14):
                    self.assertEqual(wide(width * size), width * profile(size))
                    self.assertEqual(round_floor(program.spread(width), width * size),
                                     width * round_floor(program, size))

    def test_loop_of_forty_scans(self):
        rnd = random.Random(85)
        for top in (6, 25):
            bodies = drawn_bodies(rnd, 40, top)
            text = words_of(bodies, [False] * 40)
            accesses, profile = expanded(text), round_profile(Program(text))
            for size in (0, 1, 2, top // 2, top, top + 1):
                more = misses_in(accesses * 3, size) - misses_in(accesses * 2, size)
                self.assertEqual(profile(size), more)
                self.assertEqual(round_floor(Program(text), size), max(0, len(set(accesses)) - size))
        apart = Program(" ".join(f"{10 * k}-{10 * k + 9}" for k in range(40)))
        self.assertEqual(round_profile(apart).pieces, [(400, 400, 400)])
        self.assertEqual(round_profile(apart + ~apart).pieces, [(1, 400, 2)])


class RoundFloorTest(unittest.TestCase):
    def test_different_addresses(self):
        for text in TEXTS + random_texts(86, 60):
            many = len(set(expanded(text)))
            for size in [*range(many + 3), BIG, FAR]:
                self.assertEqual(round_floor(Program(text), size), max(0, many - size))
                self.assertLessEqual(round_floor(Program(text), size), round_profile(Program(text))(size))

    def test_great_programs(self):
        program = Program(f"( ( 0-{BIG} ){BIG} {BIG}-5 ){BIG}")
        self.assertEqual([round_floor(program, size) for size in (0, 1, BIG, BIG + 1, BIG + 2)],
                         [BIG + 1, BIG, 1, 0, 0])

    def test_swing_reaches_the_floor(self):
        # To and fro, so many addresses miss on each way.
        swing = Program("0-9 9-0")
        for size in range(1, 12):
            self.assertEqual(round_profile(swing)(size), 2 * round_floor(swing, size))


class BestDirectionsTest(unittest.TestCase):
    def check(self, bodies):
        """Holds best_directions and direction_changes against all choices, for each size."""
        top = len(set(expanded(words_of(bodies, [False] * len(bodies))))) + 2
        expected = best_of_all(bodies, range(top + 1))
        self.assertEqual([best_directions(bodies, size) for size in range(top + 1)], expected, bodies)
        rows = [(size, turns) for size, turns in enumerate(expected) if size == 0 or expected[size - 1] != turns]
        self.assertEqual(direction_changes(bodies), rows, bodies)
        self.assertEqual(best_directions(bodies, FAR), expected[-1])

    def test_one_and_two_scans(self):
        scans = list(itertools.product(range(3), repeat=2))
        for bodies in [[scan] for scan in scans] + [list(pair) for pair in itertools.product(scans, repeat=2)]:
            self.check(bodies)

    def test_three_and_four_scans(self):
        rnd = random.Random(87)
        for many, top, times in ((3, 3, 60), (3, 9, 40), (4, 3, 20), (4, 7, 20)):
            for _ in range(times):
                self.check(drawn_bodies(rnd, many, top))

    def test_five_and_six_scans(self):
        rnd = random.Random(88)
        for many, top, times in ((5, 3, 8), (5, 6, 6), (6, 2, 4), (6, 4, 4)):
            for _ in range(times):
                self.check(drawn_bodies(rnd, many, top))

    def test_scans_alike(self):
        for bodies in ([(2, 2)] * 6, [(0, 4)] * 4, [(0, 3), (3, 0), (0, 3)], [(4, 0)] * 3, [(1, 1), (0, 3), (1, 1)],
                       [(5, 5), (6, 6), (7, 7)], [(0, 2), (5, 5), (0, 2), (5, 5)]):
            self.check(bodies)

    def test_none_is_turned_where_it_makes_no_difference(self):
        for bodies in ([(5, 5)] * 3, [(0, 9), (20, 29)], [(7, 3), (12, 12)], [(0, BIG)]):
            for size in (0, 1, 5, 30, BIG):
                self.assertEqual(best_directions(bodies, size), [False] * len(bodies))
            self.assertEqual(direction_changes(bodies), [(0, [False] * len(bodies))])

    def test_returned_lists_are_new(self):
        bodies = [(0, 3), (0, 3)]
        told = best_directions(bodies, 2)
        told[0] = None
        rows = direction_changes(bodies)
        rows[0][1][0] = rows[1][1][1] = None
        rows.pop()
        self.assertEqual(best_directions(bodies, 2), [False, True])
        self.assertEqual(
            direction_changes(bodies), [(0, [False, False]), (1, [False, True]), (4, [False, False])])
        self.assertEqual(bodies, [(0, 3), (0, 3)])
        rows = direction_changes(bodies)
        self.assertEqual(len({id(turns) for _, turns in rows}), 3)


class GreatDirectionsTest(unittest.TestCase):
    def check_changes(self, bodies):
        """Holds each size of the changes, the one below and the one above against best_directions."""
        rows = direction_changes(bodies)
        self.assertEqual(rows[0][0], 0)
        for one, two in itertools.pairwise(rows):
            self.assertLess(one[0], two[0])
            self.assertNotEqual(one[1], two[1])
            self.assertEqual(best_directions(bodies, two[0] - 1), one[1])
            self.assertEqual(best_directions(bodies, (one[0] + two[0]) // 2), one[1])
        for size, turns in rows:
            self.assertEqual(best_directions(bodies, size), turns)
        self.assertEqual(best_directions(bodies, FAR), rows[-1][1])
        return rows

    def best_by_profiles(self, bodies, size):
        choices = list(itertools.product((False, True), repeat=len(bodies)))
        misses = []
        for turns in choices:
            program = Program("")
            for scan, turn in zip(bodies, turns):
                low, high = min(scan), max(scan)
                part = Program(f"0-{high - low}" if low < high else "0").moved(low)
                program = program + (part if (scan[0] <= scan[1]) != turn else ~part)
            misses.append(round_profile(program)(size))
        return list(choices[misses.index(min(misses))])

    def test_spread_scans(self):
        rnd = random.Random(89)
        for many, top, times in ((2, 5, 6), (3, 6, 6), (4, 8, 4), (6, 6, 2)):
            for _ in range(times):
                small = drawn_bodies(rnd, many, top)
                top_size = len(set(expanded(words_of(small, [False] * many)))) + 2
                for width, shift in ((1, 10 ** 90), (3, 0), (10 ** 28, 0), (10 ** 28 - 1, 10 ** 90)):
                    great = []
                    for first, last in small:
                        up = first <= last
                        ends = (width * first, width * last + width - 1) if up else (
                            width * first + width - 1, width * last)
                        great.append((ends[0] + shift, ends[1] + shift))
                    rows = self.check_changes(great)
                    if width == 1:
                        self.assertEqual(rows, direction_changes(small))
                    for size in (0, 1, width, 2 * width + 1, top_size * width // 2):
                        self.assertEqual(best_directions(great, size), self.best_by_profiles(great, size))

    def test_drawn_great_scans(self):
        rnd = random.Random(90)
        for many in (2, 3, 4, 5, 6):
            for _ in range(3):
                bodies = drawn_bodies(rnd, many, 10 ** 28)
                self.check_changes(bodies)
                shift = rnd.choice([10 ** 90, 10 ** 29])
                moved = [(first + shift, last + shift) for first, last in bodies]
                self.assertEqual(direction_changes(moved), direction_changes(bodies))
                mirrored = [(BIG - first, BIG - last) for first, last in bodies]
                self.assertEqual(direction_changes(mirrored), direction_changes(bodies))

    def test_scans_that_meet_and_scans_that_do_not(self):
        third = 10 ** 28 // 3
        for bodies in ([(0, third), (third + 1, 2 * third)], [(0, third), (third, 2 * third)],
                       [(0, 2 * third), (third, 3 * third), (5 * third, 4 * third)],
                       [(0, 10 ** 28), (10 ** 28, 0), (third, third), (2 * third, 0)]):
            self.check_changes(bodies)

    def test_all_small_sizes_of_middling_scans(self):
        rnd = random.Random(91)
        for _ in range(4):
            bodies = drawn_bodies(rnd, 4, 150)
            rows = self.check_changes(bodies)
            told = [turns for size, turns in rows]
            now = -1
            for size in range(0, 180):
                if now + 1 < len(rows) and rows[now + 1][0] == size:
                    now += 1
                self.assertEqual(best_directions(bodies, size), told[now])


class WrongArgumentsTest(unittest.TestCase):
    def setUp(self):
        self.program = Program("0-9 5-14")

    def test_program(self):
        for value in [*ODD, 0, [(0, 3)], Program, round_profile(self.program)]:
            with self.assertRaises(InvalidProgram, msg=value):
                round_profile(value)
            for size in (0, None, -1):
                with self.assertRaises(InvalidProgram, msg=value):
                    round_floor(value, size)

    def test_size(self):
        for value in NO_NUMBERS:
            for program in (self.program, Program("")):
                with self.assertRaises(InvalidSize, msg=value):
                    round_floor(program, value)
            with self.assertRaises(InvalidSize, msg=value) as caught:
                best_directions([(0, 3)], value)
            self.assertIsInstance(caught.exception, ScanError)
            self.assertIsInstance(caught.exception, ValueError)

    def test_bodies(self):
        wrong = [None, True, 0, "", "0-3", (), (0, 3), ((0, 3),), [], [(0, 3)] * 7, [(0, 3), [0, 3]], [(0, 3), None],
                 [(0, 3), (0, 3, 4)], [(0,)], [(0, -1)], [(True, 2)], [(0, 3), ("0", 3)], {(0, 3): 1}, [0, 3],
                 self.program, [self.program]]
        for value in wrong + [[(0, 3), odd] for odd in ODD]:
            with self.assertRaises(InvalidScans, msg=value) as caught:
                direction_changes(value)
            self.assertIsInstance(caught.exception, ScanError)
            for size in (0, None, -1):
                with self.assertRaises(InvalidScans, msg=value):
                    best_directions(value, size)

    def test_arguments_stay(self):
        bodies = [(0, 3), (9, 2), (0, FAR)]
        direction_changes(bodies)
        best_directions(bodies, 3)
        self.assertEqual(bodies, [(0, 3), (9, 2), (0, FAR)])
        round_profile(self.program)
        self.assertEqual(self.program, Program("0-9 5-14"))
