import itertools
import random
import unittest

from plain import BIG, FAR, NO_NUMBERS, depth_of, distances_in
from scanmisses.buffers import Buffer
from scanmisses.errors import InvalidNumber, InvalidPoints, ScanError
from scanmisses.points import program_for
from scanmisses.profiles import Profile
from scanmisses.programs import Program
from scanmisses.rounds import round_floor, round_profile
from scanmisses.same import parting, same_everywhere
from scanmisses.steps import address_at, count_reads, distance_at, last_before, nth_read, parted, written
from scanmisses.summaries import profile_of, summary_of


def drawn_distances(rnd, low, high, many):
    """So many different numbers from low to high, ascending, or all of them if there are fewer."""
    found = set()
    while len(found) < min(many, high - low + 1):
        found.add(rnd.randint(low, high))
    return sorted(found)


class ExamplesTest(unittest.TestCase):
    def test_examples_of_the_document(self):
        made = profile_of(program_for(3, {2: 2, 3: 10 ** 30}))
        self.assertEqual(
            [made.cold, made.pieces, program_for(3, {4: 1})],
            [3, [(2, 2, 2), (3, 3, 1000000000000000000000000000000)], None])

    def test_module(self):
        self.assertEqual(program_for.__module__, "scanmisses.points")


class PointsTest(unittest.TestCase):
    def check(self, cold, points):
        """Holds what is made against what was asked for; returns it."""
        kept = dict(points)
        made = program_for(cold, points)
        self.assertEqual((points, list(points)), (kept, list(kept)))
        self.assertIsInstance(made, Program)
        whole = Profile(cold, [])
        for distance, times in points.items():
            whole = whole + Profile(0, [(distance, distance, times)])
        self.assertEqual(profile_of(made), whole, (cold, points))
        firsts = summary_of(made).firsts
        self.assertEqual(sorted(firsts), [(0, cold - 1)] if cold else [])
        self.assertLessEqual(len(made.scans), 100)
        self.assertLessEqual(depth_of(made.text), 1)
        if len(made.scans) <= 40:
            self.assertEqual(Program(made.text), made)
        self.assertEqual(program_for(cold, dict(reversed(list(points.items())))), made)
        return made

    def test_access_by_access(self):
        rnd = random.Random(111)
        for _ in range(250):
            cold = rnd.randint(1, 14)
            chosen = drawn_distances(rnd, 1, cold, rnd.randint(0, 8))
            points = {distance: rnd.randint(1, 20) for distance in chosen}
            accesses = written(self.check(cold, points))
            distances = distances_in(accesses)
            self.assertEqual(sorted(set(accesses)), list(range(cold)))
            self.assertEqual(distances.count(None), cold)
            told = [distance for distance in distances if distance is not None]
            self.assertEqual({distance: told.count(distance) for distance in told}, points)

    def test_each_one_distance(self):
        for cold, times in itertools.product(range(1, 7), range(1, 14)):
            for distance in range(1, cold + 1):
                self.check(cold, {distance: times})
            self.assertIsNone(program_for(cold, {cold + 1: times}))

    def test_no_distances(self):
        self.assertEqual([program_for(cold, {}).text for cold in (0, 1, 2, BIG)], ["", "0", "0-1", f"0-{BIG - 1}"])

    def test_none(self):
        for cold in (0, 1, 5, BIG):
            for points in ({cold + 1: 1}, {FAR + cold: BIG}, {1: 3, cold + 1: 1}, {cold + 2: 1, 2: 4}):
                self.assertIsNone(program_for(cold, points))

    def test_edges(self):
        for cold in (1, 2, 3, 10, 10 ** 15, BIG - 1, BIG):
            for times in (1, 2, cold - 1, cold, cold + 1, BIG - 1, BIG):
                if 1 <= times <= BIG:
                    self.check(cold, {cold: times})
                    self.check(cold, {1: times})
                    self.check(cold, {1: times, cold: times})
                    if cold > 2:
                        self.check(cold, {cold - 1: times, cold: BIG, 1: 3, 2: times})

    def test_neighbouring_distances(self):
        rnd = random.Random(112)
        for start in (1, 2, 7, 10 ** 20, BIG - 8):
            for _ in range(12):
                points = {start + k: rnd.choice([1, 2, start + k, rnd.randint(1, BIG)]) for k in range(8)}
                self.check(start + 7, points)
                self.check(min(BIG, start + 100), points)

    def test_distances_far_apart(self):
        rnd = random.Random(113)
        for _ in range(150):
            cold = rnd.choice([BIG, BIG - 1, 10 ** rnd.randint(2, 30), rnd.randint(1, BIG)])
            points = {}
            for _ in range(8):
                points[rnd.randint(1, rnd.choice([10, cold, cold, 10 ** 15])) % cold + 1] = rnd.choice(
                    [1, rnd.randint(1, BIG), rnd.randint(1, 10 ** 20), BIG])
            self.check(cold, points)

    def test_most_scans(self):
        rnd = random.Random(114)
        most = 0
        for _ in range(200):
            cold = rnd.choice([40, 10 ** 6, BIG])
            chosen = drawn_distances(rnd, max(2, cold - cold // 4), cold, 8)
            points = {distance: distance * rnd.randint(1, 5) + rnd.randrange(distance) for distance in chosen}
            points = {distance: min(BIG, times) for distance, times in points.items()}
            most = max(most, len(self.check(cold, points).scans))
        self.assertGreater(most, 60)
        self.assertLessEqual(most, 100)

    def test_profile_of_what_is_made_again(self):
        for text in ("( 0-9 )7", "( 0-3 3-0 )5", "0-9 5-14", "( ( 0-5 )3 8-2 )4"):
            profile = profile_of(Program(text))
            points = {d: profile.at(d) for d in range(1, 20) if profile.at(d)}
            if len(points) <= 8:
                self.assertEqual(profile_of(program_for(profile.cold, points)), profile)


class PassedOnTest(unittest.TestCase):
    def test_functions_that_take_programs(self):
        rnd = random.Random(115)
        for cold in (12, 10 ** 6, BIG):
            points = {distance: rnd.randint(cold, BIG) for distance in drawn_distances(rnd, cold - cold // 3, cold, 5)}
            points.update({1: BIG, 2: BIG - 1, 4: 7})
            plain = program_for(cold, points)
            for shift in (0, 1, BIG, FAR):
                made = plain.moved(shift)
                profile = profile_of(made)
                self.assertEqual(profile, profile_of(plain))
                self.assertEqual(profile.accesses, made.accesses)
                self.assertEqual(made.accesses, cold + sum(points.values()))
                self.assertEqual(summary_of(made) + summary_of(plain), summary_of(made + plain))
                self.assertEqual(summary_of(~made).profile, profile)
                self.assertTrue(same_everywhere(made, made))
                self.assertIsNone(parting(made, made + Program("")))
                self.assertEqual(same_everywhere(made, plain), shift == 0)
                for index in (0, cold - 1, cold, made.accesses // 2, made.accesses - 1):
                    address = address_at(made, index)
                    self.assertEqual(nth_read(made, address, count_reads(parted(made, index)[0], address)), index)
                    distance = distance_at(made, index)
                    self.assertEqual(distance in points, index >= cold)
                    self.assertEqual(last_before(made, index) is None, index < cold)
                self.assertEqual(round_floor(made, 3), cold - 3)
                self.assertEqual(round_profile(made).accesses, made.accesses)
                buffer = Buffer(5)
                self.assertEqual(buffer.play(made), profile(5))


class WrongArgumentsTest(unittest.TestCase):
    def test_cold(self):
        for value in [*NO_NUMBERS, BIG + 1, FAR]:
            for points in ({}, {1: 1}, None, {0: 1}, [(1, 1)]):
                with self.assertRaises(InvalidNumber, msg=value) as caught:
                    program_for(value, points)
                self.assertIsInstance(caught.exception, ScanError)
                self.assertIsInstance(caught.exception, ValueError)

    def test_points(self):
        wrong = [None, True, 1, "", "1", (), (1, 1), [], [(1, 1)], [1], ((1, 1),), b"", Program("0"), dict,
                 {0: 1}, {-1: 1}, {1: 0}, {1: -1}, {1: BIG + 1}, {True: 1}, {1: True}, {False: 1}, {"1": 1}, {1: "1"},
                 {None: 1}, {1: None}, {(1,): 1}, {1: (1,)}, {1: [1]}, {1: {}}, {2: 1, 1: 0}, {2: 1, 0: 1},
                 {1: 1, 2: FAR},
                 {k: 1 for k in range(1, 10)}, {k: None for k in range(9)}]
        for cold in (0, 1, 20, BIG):
            for value in wrong:
                with self.assertRaises(InvalidPoints, msg=value) as caught:
                    program_for(cold, value)
                self.assertIsInstance(caught.exception, ScanError)
                self.assertIsInstance(caught.exception, ValueError)
        self.assertIsNotNone(program_for(20, {k: 1 for k in range(1, 9)}))

    def test_wrong_points_beyond_cold(self):
        with self.assertRaises(InvalidPoints):
            program_for(3, {9: 0})
        with self.assertRaises(InvalidPoints):
            program_for(3, {9: 1, 2: None})
