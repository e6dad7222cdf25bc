import random
import unittest

from plain import BIG, FAR, NO_NUMBERS, ODD, pieces_of
from scanmisses.errors import InvalidNumber, InvalidProfile, InvalidSize, ScanError
from scanmisses.profiles import Profile
from scanmisses.programs import Program

# What Profile takes, and the distances that it tells of.
SMALL = [
    (0, []), (3, []), (0, [(1, 1, 1)]), (2, [(1, 4, 2)]), (4, [(1, 2, 9), (3, 4, 9), (7, 7, 2)]),
    (1, [(1, 2, 3), (3, 5, 4)]), (0, [(2, 2, 1), (3, 3, 1), (4, 4, 1)]), (0, [(2, 5, 1), (9, 9, 7), (11, 12, 7)]),
    (7, [(3, 3, 5), (4, 4, 5), (5, 5, 4), (6, 6, 5)]), (0, [(10, 12, 1)]), (0, [(1, 1, 2), (2, 2, 1), (3, 3, 2)]),
]

NO_PIECES = [
    None, True, 0, "", "1", (), ((1, 2, 3),), {}, {1: 2}, [None], [1], [1, 2, 3], [[1, 2, 3]], [(1, 2)],
    [(1, 2, 3, 4)], [()], [(1,)], ["123"], [b"123"], [{1, 2, 3}], [(1, 2, 3), [4, 5, 6]], [(1, 2, 3), (4, 5)],
    [(0, 2, 3)], [(-1, 2, 3)], [(2, 1, 3)], [(1, 2, 0)], [(1, 2, -1)], [(True, 2, 3)], [(1, True, 3)],
    [(1, 2, True)], [(None, 2, 3)], [(1, None, 3)], [(1, 2, None)], [("1", "2", "3")], [((1,), 2, 3)],
    [(1, 2, 3), (2, 3, 4)], [(1, 2, 3), (1, 2, 3)], [(3, 4, 1), (1, 2, 1)], [(1, 9, 1), (3, 4, 1)],
    [(1, 2, 3), (4, 5, 6), (5, 7, 1)], [(1, 2, 3), (4, 3, 6)], [(1, 2, 3), (4, 5, 0)], [(5, 5, 1), (5, 5, 1)],
    [(2, 3, 1), (1, 1, 1)], [(FAR, FAR - 1, 1)], [(1, FAR, 1), (FAR, FAR, 1)], Profile(1, []), Profile, Program("1"),
]


def random_parts(rnd):
    """Pieces as Profile takes them, at random, not always as few as possible."""
    pieces, low = [], 1
    for _ in range(rnd.randint(0, 6)):
        low += rnd.choice([0, 0, 1, 2])
        high = low + rnd.randint(0, 3)
        pieces.append((low, high, rnd.randint(1, 2)))
        low = high + 1
    return (rnd.randint(0, 3), pieces)


def parts_of_profiles():
    rnd = random.Random(5)
    return SMALL + [random_parts(rnd) for _ in range(300)]


def told_by(cold, pieces):
    """The distances one by one, None for a cold access."""
    found = [None] * cold
    for low, high, times in pieces:
        for distance in range(low, high + 1):
            found.extend([distance] * times)
    return found


def missing(distances, size):
    """How many accesses with these distances miss."""
    return len([distance for distance in distances if distance is None or distance > size])


class ExamplesTest(unittest.TestCase):
    def test_examples_of_the_document(self):
        one = Profile(4, [(1, 2, 9), (3, 4, 9), (7, 7, 2)])
        self.assertEqual(
            [one.pieces, one.accesses, one.corners, one(0), one(3), one(100)],
            [[(1, 4, 9), (7, 7, 2)], 42, [4, 6, 7], 42, 15, 4])
        self.assertEqual(
            [one.at(7), one.least_size(12), one.least_size(3), one + one == one * 2], [2, 4, None, True])


class SmallProfilesTest(unittest.TestCase):
    def test_properties(self):
        for cold, pieces in parts_of_profiles():
            profile, distances = Profile(cold, pieces), told_by(cold, pieces)
            self.assertEqual(profile.cold, cold)
            self.assertEqual(profile.pieces, pieces_of(distances))
            self.assertEqual(profile.accesses, len(distances))
            corners = [d for d in range(1, 60) if distances.count(d) != distances.count(d + 1)]
            self.assertEqual(profile.corners, corners)

    def test_misses_for_each_size(self):
        for cold, pieces in parts_of_profiles():
            profile, distances = Profile(cold, pieces), told_by(cold, pieces)
            for size in [*range(60), BIG, FAR]:
                self.assertEqual(profile(size), missing(distances, size))

    def test_at_each_distance(self):
        for cold, pieces in parts_of_profiles():
            profile, distances = Profile(cold, pieces), told_by(cold, pieces)
            for distance in [*range(1, 60), FAR]:
                self.assertEqual(profile.at(distance), distances.count(distance))

    def test_least_size_for_each_number_of_misses(self):
        for cold, pieces in parts_of_profiles():
            profile, distances = Profile(cold, pieces), told_by(cold, pieces)
            table = [missing(distances, size) for size in range(60)]
            for misses in range(len(distances) + 3):
                sizes = [size for size in range(60) if table[size] <= misses]
                self.assertEqual(profile.least_size(misses), sizes[0] if sizes else None)
            self.assertEqual(profile.least_size(FAR), 0)

    def test_sums(self):
        rows = parts_of_profiles()
        for one, two in [(one, two) for one in SMALL for two in SMALL] + list(zip(rows, rows[1:])):
            told = Profile(*one) + Profile(*two)
            self.assertEqual(told.cold, one[0] + two[0])
            self.assertEqual(told.pieces, pieces_of(told_by(*one) + told_by(*two)))

    def test_multiples(self):
        for cold, pieces in parts_of_profiles():
            for times in (0, 1, 2, 5):
                told = Profile(cold, pieces) * times
                self.assertEqual(told.cold, cold * times)
                self.assertEqual(told.pieces, pieces_of(told_by(cold, pieces) * times))
            great = Profile(cold, pieces) * BIG
            few = pieces_of(told_by(cold, pieces))
            self.assertEqual(great.pieces, [(low, high, times * BIG) for low, high, times in few])
            self.assertEqual([great.cold, great.corners], [cold * BIG, Profile(cold, pieces).corners])


class EdgesTest(unittest.TestCase):
    def test_nothing(self):
        none = Profile(0, [])
        self.assertEqual([none.cold, none.pieces, none.accesses, none.corners], [0, [], 0, []])
        self.assertEqual([none(0), none(1), none(FAR), none.at(1), none.least_size(0)], [0, 0, 0, 0, 0])
        self.assertEqual(none, none + none)
        self.assertEqual(none, none * BIG)

    def test_only_cold(self):
        cold = Profile(FAR, [])
        self.assertEqual([cold(0), cold(FAR), cold.accesses, cold.corners, cold.pieces], [FAR, FAR, FAR, [], []])
        self.assertEqual([cold.least_size(FAR), cold.least_size(FAR - 1), cold.least_size(0)], [0, None, None])

    def test_corners(self):
        self.assertEqual(Profile(0, [(1, 5, 1)]).corners, [5])
        self.assertEqual(Profile(0, [(2, 5, 1)]).corners, [1, 5])
        self.assertEqual(Profile(0, [(1, 5, 1), (6, 7, 1)]).corners, [7])
        self.assertEqual(Profile(0, [(1, 5, 1), (6, 7, 2)]).corners, [5, 7])
        self.assertEqual(Profile(0, [(1, 5, 1), (7, 7, 1)]).corners, [5, 6, 7])
        self.assertEqual(Profile(0, [(1, 5, 1), (8, 8, 1)]).corners, [5, 7, 8])
        self.assertEqual(Profile(9, [(1, 1, 1)]).corners, [1])
        self.assertEqual(Profile(0, [(FAR, FAR, 1)]).corners, [FAR - 1, FAR])

    def test_sums_that_overlap_touch_and_fill_gaps(self):
        one = Profile(1, [(1, 3, 2), (7, 9, 2)])
        self.assertEqual((one + Profile(2, [(4, 6, 2)])).pieces, [(1, 9, 2)])
        self.assertEqual((one + Profile(2, [(3, 7, 1)])).pieces,
                         [(1, 2, 2), (3, 3, 3), (4, 6, 1), (7, 7, 3), (8, 9, 2)])
        self.assertEqual((one + Profile(2, [(4, 6, 1)])).pieces, [(1, 3, 2), (4, 6, 1), (7, 9, 2)])
        self.assertEqual((one + Profile(2, [(10, 10, 2)])).pieces, [(1, 3, 2), (7, 10, 2)])
        self.assertEqual((one + Profile(2, [(5, 5, 2)])).pieces, [(1, 3, 2), (5, 5, 2), (7, 9, 2)])
        self.assertEqual((one + Profile(2, [(1, 9, 4)])).pieces, [(1, 3, 6), (4, 6, 4), (7, 9, 6)])
        self.assertEqual((Profile(0, [(1, 2, 1), (3, 4, 2)]) + Profile(0, [(1, 2, 1)])).pieces, [(1, 4, 2)])
        self.assertEqual((one + Profile(2, [])).pieces, one.pieces)
        self.assertEqual((one + Profile(2, [])).cold, 3)

    def test_great_numbers(self):
        profile = Profile(FAR, [(BIG, FAR, FAR), (FAR + 1, FAR + 1, 1)])
        whole = (FAR - BIG + 1) * FAR
        self.assertEqual(profile.accesses, FAR + whole + 1)
        for size in (0, 1, BIG - 1):
            self.assertEqual(profile(size), FAR + whole + 1)
        self.assertEqual(profile(BIG), FAR + whole + 1 - FAR)
        self.assertEqual(profile(BIG + 1), FAR + whole + 1 - 2 * FAR)
        self.assertEqual([profile(FAR - 1), profile(FAR), profile(FAR + 1)], [2 * FAR + 1, FAR + 1, FAR])
        self.assertEqual(profile.corners, [BIG - 1, FAR, FAR + 1])
        self.assertEqual([profile.at(BIG - 1), profile.at(BIG), profile.at(FAR), profile.at(FAR + 1)], [0, FAR, FAR, 1])
        self.assertEqual(profile.at(FAR + 2), 0)
        for size in (BIG, BIG + 1, BIG + 12345, FAR - 1, FAR, FAR + 1):
            self.assertEqual(profile.least_size(profile(size)), size)
            self.assertEqual(profile.least_size(profile(size) - 1), None if size > FAR else size + 1)
        self.assertEqual(profile.least_size(profile(0)), 0)
        self.assertEqual(profile.least_size(profile(0) - 1), BIG)

    def test_two_hundred_pieces(self):
        for step, times, few in ((10, lambda k: 1 + k % 3, 200), (5, lambda k: 1 + k % 3, 200), (5, lambda k: 4, 1)):
            pieces = [(step * k + 1, step * k + 5, times(k)) for k in range(200)]
            profile, distances = Profile(2, pieces), told_by(2, pieces)
            self.assertEqual(profile.pieces, pieces_of(distances))
            self.assertEqual(len(profile.pieces), few)
            for low, high, _ in pieces:
                for size in (low - 1, low, low + 1, high - 1, high, high + 1):
                    misses = missing(distances, size)
                    self.assertEqual(profile(size), misses)
                    self.assertEqual(profile(profile.least_size(misses)), misses)
            self.assertEqual(profile.corners, sorted(set(profile.corners)))
            self.assertEqual(profile + profile, profile * 2)

    def test_equality(self):
        profile = Profile(2, [(1, 4, 2), (6, 6, 1)])
        for equal in (Profile(2, [(1, 1, 2), (2, 4, 2), (6, 6, 1)]), Profile(1, [(1, 4, 2)]) + Profile(1, [(6, 6, 1)]),
                      profile * 1, Profile(2, [(k, k, 2) for k in range(1, 5)] + [(6, 6, 1)])):
            self.assertIs(profile == equal, True)
            self.assertIs(profile != equal, False)
        for other in (Profile(3, [(1, 4, 2), (6, 6, 1)]), Profile(2, [(1, 4, 2), (6, 6, 2)]), Profile(2, [(1, 4, 2)]),
                      Profile(2, [(1, 4, 2), (6, 7, 1)]), Profile(2, [(2, 4, 2), (6, 6, 1)]), Profile(2, []),
                      profile * 2):
            self.assertIs(profile == other, False)
            self.assertIs(profile != other, True)
        for value in [*ODD, 2, (2, [(1, 4, 2)]), profile.pieces, Profile, Program("0")]:
            self.assertIs(profile == value, False)
            self.assertIs(profile.__eq__(value), False)
            self.assertIs(Profile(0, []) == value, False)

    def test_lists_that_are_changed_afterwards(self):
        pieces = [(1, 4, 2), (6, 6, 1)]
        profile = Profile(2, pieces)
        pieces.append((9, 9, 1))
        pieces[0] = None
        self.assertEqual(profile.pieces, [(1, 4, 2), (6, 6, 1)])
        for told in (profile.pieces, profile.corners):
            told.append(None)
            told[0] = (1, 1, 1)
        self.assertEqual([profile.pieces, profile.corners], [[(1, 4, 2), (6, 6, 1)], [4, 5, 6]])
        self.assertEqual([profile(0), profile.accesses], [11, 11])
        self.assertIsNot(profile.pieces, profile.pieces)
        self.assertIsNot(profile.corners, profile.corners)

    def test_the_list_that_is_passed_stays(self):
        pieces = [(1, 2, 3), (3, 4, 3), (5, 5, 1)]
        profile = Profile(2, pieces)
        self.assertEqual(pieces, [(1, 2, 3), (3, 4, 3), (5, 5, 1)])
        told = [profile + profile, profile * 3, profile(2), profile.at(2), profile.least_size(5)]
        self.assertEqual(told, [profile + profile, profile * 3, profile(2), profile.at(2), profile.least_size(5)])
        self.assertEqual([profile.cold, profile.pieces], [2, [(1, 4, 3), (5, 5, 1)]])

    def test_listed_names_are_defined_in_the_class(self):
        for name in ["pieces", "accesses", "corners", "__call__", "at", "least_size", "__add__", "__mul__", "__eq__"]:
            self.assertIn(name, vars(Profile))
        self.assertEqual(Profile.__module__, "scanmisses.profiles")
        for name in ["cold", "pieces", "accesses", "corners"]:
            self.assertTrue(hasattr(Profile(0, []), name))


class WrongArgumentsTest(unittest.TestCase):
    def setUp(self):
        self.profile = Profile(2, [(1, 4, 2), (6, 6, 1)])

    def tearDown(self):
        self.assertEqual([self.profile.cold, self.profile.pieces], [2, [(1, 4, 2), (6, 6, 1)]])

    def test_cold(self):
        for value in NO_NUMBERS:
            for pieces in ([], [(1, 2, 3)], None):
                with self.assertRaises(InvalidProfile, msg=value):
                    Profile(value, pieces)

    def test_pieces(self):
        for value in NO_PIECES:
            before = repr(value)
            with self.assertRaises(InvalidProfile, msg=value):
                Profile(2, value)
            self.assertEqual(repr(value), before)

    def test_bounds_just_kept(self):
        for value in ([(1, 1, 1)], [(1, 1, 1), (2, 2, 1)], [(1, 2, 3), (3, 3, 1)], [(FAR, FAR, FAR)]):
            self.assertEqual(Profile(0, value).accesses, sum((high - low + 1) * times for low, high, times in value))

    def test_classes(self):
        with self.assertRaises(ScanError) as caught:
            Profile(-1, [])
        self.assertIs(type(caught.exception), InvalidProfile)
        self.assertIsInstance(caught.exception, ValueError)

    def test_size(self):
        for value in NO_NUMBERS:
            with self.assertRaises(InvalidSize, msg=value):
                self.profile(value)

    def test_distance(self):
        for value in [*NO_NUMBERS, 0]:
            with self.assertRaises(InvalidNumber, msg=value):
                self.profile.at(value)

    def test_misses(self):
        for value in NO_NUMBERS:
            for profile in (self.profile, Profile(0, [])):
                with self.assertRaises(InvalidNumber, msg=value):
                    profile.least_size(value)

    def test_sum(self):
        for value in [*ODD, 0, 1, Profile, Program("0"), self.profile.pieces, (2, [])]:
            for profile in (self.profile, Profile(0, [])):
                with self.assertRaises(InvalidProfile, msg=value):
                    profile + value

    def test_multiple(self):
        for value in [*NO_NUMBERS, BIG + 1, self.profile]:
            for profile in (self.profile, Profile(0, [])):
                with self.assertRaises(InvalidNumber, msg=value):
                    profile * value
