import copy
import itertools
import random
import unittest

from plain import BIG, FAR, NO_LISTS, ODD, addresses_of, pieces_of, small_lists, tidy_of
from scanmisses.errors import InvalidList
from scanmisses.profiles import Profile
from scanmisses.summaries import between


def distances_behind(lasts, firsts):
    """The distances of point 8 of the addresses of firsts, one by one, None for those that are not in lasts."""
    ahead, behind = addresses_of(lasts), addresses_of(firsts)
    found = []
    for place, address in enumerate(behind):
        if address in ahead:
            found.append(1 + len(set(ahead[:ahead.index(address)]) | set(behind[:place])))
        else:
            found.append(None)
    return found


def spread(scans, width):
    """The scans with so many addresses as width for each one."""
    return [(width * first, width * last + width - 1) if first <= last else (width * first + width - 1, width * last)
            for first, last in scans]


def random_list(rnd, top, rough):
    """A list of addresses below top; a rough one is cut into more scans than it needs."""
    chosen = list(range(top))
    for _ in range(rnd.randint(0, 3)):
        at, to = sorted([rnd.randint(0, top), rnd.randint(0, top)])
        part = chosen[at:to][::rnd.choice([1, -1])]
        rest = chosen[:at] + chosen[to:]
        at = rnd.randint(0, len(rest))
        chosen = rest[:at] + part + rest[at:]
    for _ in range(rnd.randint(0, 3)):
        at, to = sorted([rnd.randint(0, len(chosen)), rnd.randint(0, len(chosen))])
        if to - at < top // 2:
            del chosen[at:to]
    if not rough:
        return tidy_of(chosen)
    cuts = sorted(rnd.randint(0, len(chosen)) for _ in range(3))
    ends = zip([0, *cuts], [*cuts, len(chosen)])
    return [scan for start, stop in ends for scan in tidy_of(chosen[start:stop])]


class BetweenTest(unittest.TestCase):
    def check(self, lasts, firsts):
        told, distances = between(lasts, firsts), distances_behind(lasts, firsts)
        self.assertEqual(told.cold, distances.count(None), (lasts, firsts))
        self.assertEqual(told.pieces, pieces_of(distances), (lasts, firsts))
        self.assertEqual(told.accesses, len(distances))

    def test_example_of_the_document(self):
        far = between([(3, 0), (8, 9)], [(9, 7), (0, 1)])
        self.assertEqual([far.cold, far.pieces], [1, [(6, 7, 2)]])
        self.check([(3, 0), (8, 9)], [(9, 7), (0, 1)])

    def test_all_pairs_of_small_lists(self):
        lists = list(small_lists(4))
        for lasts in lists:
            for firsts in lists:
                self.check(lasts, firsts)

    def test_lists_with_like_and_unlike_addresses(self):
        lists = list(small_lists(3))
        for lasts in lists:
            for firsts in lists:
                self.check([(first + 1, last + 1) for first, last in lasts], firsts)

    def test_longer_lists(self):
        rnd = random.Random(8)
        for _ in range(1500):
            top = rnd.randint(1, 30)
            self.check(random_list(rnd, top, rnd.random() < 0.5), random_list(rnd, top, rnd.random() < 0.5))

    def test_empty_lists(self):
        self.assertEqual(between([], []), Profile(0, []))
        self.assertEqual(between([(0, 9)], []), Profile(0, []))
        self.assertEqual(between([], [(0, FAR)]), Profile(FAR + 1, []))
        self.assertEqual(between([(0, 9)], [(10, 19)]), Profile(10, []))

    def test_directions(self):
        up, down = [(0, FAR)], [(FAR, 0)]
        self.assertEqual(between(up, up), Profile(0, [(1, FAR + 1, 1)]))
        self.assertEqual(between(down, down), Profile(0, [(1, FAR + 1, 1)]))
        self.assertEqual(between(up, down), Profile(0, [(FAR + 1, FAR + 1, FAR + 1)]))
        self.assertEqual(between(down, up), Profile(0, [(FAR + 1, FAR + 1, FAR + 1)]))

    def test_one_address_in_a_long_scan(self):
        for first, last in ((0, FAR), (FAR, 0)):
            for address in (0, 1, BIG, FAR - 1, FAR):
                place = abs(address - first)
                self.assertEqual(between([(first, last)], [(address, address)]), Profile(0, [(place + 1,) * 2 + (1,)]))
                told = between([(address, address)], [(first, last)])
                self.assertEqual(told, Profile(FAR, [(place + 1,) * 2 + (1,)]))

    def test_each_address_a_block(self):
        lists = list(small_lists(4))[::3]
        for lasts in lists:
            for firsts in lists[::5]:
                for width in (2, 3):
                    self.check(spread(lasts, width), spread(firsts, width))

    def test_great_lists_against_small_ones(self):
        lists = list(small_lists(4))[::2]
        for lasts, firsts in itertools.product(lists, lists[::7]):
            small, great = between(lasts, firsts), between(spread(lasts, BIG), spread(firsts, BIG))
            self.assertEqual(great.cold, small.cold * BIG)
            for size in range(6):
                self.assertEqual(great(size * BIG), small(size) * BIG)

    def test_two_hundred_scans(self):
        rnd = random.Random(9)
        for gap in (0, 1):
            lists = []
            for shift in (0, 0, 2):
                scans = [((3 + gap) * k + shift, (3 + gap) * k + shift + 2)[::rnd.choice([1, -1])] for k in range(200)]
                rnd.shuffle(scans)
                lists.append(scans)
            for lasts, firsts in itertools.permutations(lists, 2):
                self.check(lasts, firsts)
                small, great = between(lasts, firsts), between(spread(lasts, BIG), spread(firsts, BIG))
                self.assertEqual(great.cold, small.cold * BIG)
                for size in (0, 1, 2, 3, 100, 300, 500, 599, 600, 601, 800):
                    self.assertEqual(great(size * BIG), small(size) * BIG)

    def test_arguments_stay(self):
        for lasts, firsts in [([(0, 1), (2, 5), (9, 9)], [(9, 8), (7, 7)]), ([], [(0, 1), (2, 2)]), ([(3, 0)], [])]:
            before = copy.deepcopy([lasts, firsts])
            told = between(lasts, firsts)
            self.assertEqual([lasts, firsts], before)
            self.assertEqual(told, between(lasts, firsts))
            pieces = told.pieces
            lasts.append((99, 99))
            firsts.append((99, 99))
            self.assertEqual(told.pieces, pieces)

    def test_the_same_list_twice(self):
        scans = [(0, 5), (9, 7)]
        self.assertEqual(between(scans, scans), Profile(0, [(1, 9, 1)]))


class WrongArgumentsTest(unittest.TestCase):
    def test_lasts(self):
        for value in NO_LISTS:
            for firsts in ([], [(0, 9)]):
                with self.assertRaises(InvalidList, msg=value):
                    between(value, firsts)

    def test_firsts(self):
        for value in NO_LISTS:
            for lasts in ([], [(0, 9)]):
                with self.assertRaises(InvalidList, msg=value):
                    between(lasts, value)

    def test_both(self):
        for value in [*NO_LISTS[:20], ODD]:
            with self.assertRaises(InvalidList, msg=value):
                between(value, value)
