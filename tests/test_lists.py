import copy
import itertools
import unittest

from plain import FAR, NO_LISTS, NO_NUMBERS, ODD, addresses_of, small_lists, tidy_of
from scanmisses.errors import (
    InvalidAddress, InvalidIndex, InvalidInterval, InvalidList, InvalidNumber, InvalidScan)
from scanmisses.lists import (
    count_addresses, first_part, nth_address, on_top, place_of, tidy, turned, without)

CALLS = [
    (tidy, ()), (count_addresses, ()), (turned, ()), (place_of, (0,)), (nth_address, (0,)), (first_part, (2,)),
    (on_top, ((0, 5),)), (without, (0, 5)),
]


class ExamplesTest(unittest.TestCase):
    def test_examples_of_the_document(self):
        self.assertEqual(
            [tidy([(4, 4), (5, 7), (9, 8)]), place_of([(4, 7), (9, 8)], 8), first_part([(4, 7), (9, 8)], 5)],
            [[(4, 7), (9, 8)], 5, [(4, 7), (9, 9)]])
        self.assertEqual(
            [on_top([(9, 0)], (3, 5)), without([(9, 0)], 2, 20)],
            [[(3, 5), (9, 6), (2, 0)], [(1, 0)]])


class SmallListsTest(unittest.TestCase):
    def test_tidy_count_turned(self):
        for scans in small_lists():
            addresses = addresses_of(scans)
            self.assertEqual(tidy(scans), tidy_of(addresses))
            self.assertEqual(count_addresses(scans), len(addresses))
            self.assertEqual(turned(scans), tidy_of(addresses[::-1]))

    def test_tidy_is_the_shortest(self):
        for scans in small_lists():
            told = tidy(scans)
            self.assertEqual(addresses_of(told), addresses_of(scans))
            self.assertLessEqual(len(told), len(scans))
            for one, two in zip(told, told[1:]):
                self.assertNotEqual(abs(one[1] - two[0]), 1)

    def test_places(self):
        for scans in small_lists():
            addresses = addresses_of(scans)
            for address in range(7):
                place = addresses.index(address) if address in addresses else None
                self.assertEqual(place_of(scans, address), place)
            for index, address in enumerate(addresses):
                self.assertEqual(nth_address(scans, index), address)

    def test_first_part(self):
        for scans in small_lists():
            addresses = addresses_of(scans)
            for many in range(8):
                self.assertEqual(first_part(scans, many), tidy_of(addresses[:many]))

    def test_on_top(self):
        for scans in small_lists():
            addresses = addresses_of(scans)
            for scan in itertools.product(range(7), repeat=2):
                top = addresses_of([scan])
                others = [address for address in addresses if address not in top]
                self.assertEqual(on_top(scans, scan), tidy_of(top + others))

    def test_without(self):
        for scans in small_lists():
            addresses = addresses_of(scans)
            for low in range(7):
                for high in range(low, 7):
                    left = [address for address in addresses if not low <= address <= high]
                    self.assertEqual(without(scans, low, high), tidy_of(left))


class EdgesTest(unittest.TestCase):
    def test_empty_list(self):
        self.assertEqual([tidy([]), count_addresses([]), turned([]), place_of([], 0)], [[], 0, [], None])
        self.assertEqual([first_part([], 0), first_part([], 9), without([], 0, 9)], [[], [], []])
        self.assertEqual([on_top([], (7, 2)), on_top([], (7, 7))], [[(7, 2)], [(7, 7)]])

    def test_scans_that_touch(self):
        self.assertEqual(tidy([(0, 3), (4, 9), (10, 10)]), [(0, 10)])
        self.assertEqual(tidy([(9, 5), (4, 4), (3, 0)]), [(9, 0)])
        self.assertEqual(tidy([(0, 3), (9, 4)]), [(0, 3), (9, 4)])
        self.assertEqual(tidy([(3, 0), (4, 9)]), [(3, 0), (4, 9)])
        self.assertEqual(tidy([(3, 3), (2, 2), (4, 4), (5, 5)]), [(3, 2), (4, 5)])

    def test_on_top_of_many(self):
        scans = [(10 * k, 10 * k + 4) for k in range(20)] + [(10 * k + 9, 10 * k + 6) for k in range(20)]
        top = on_top(scans, (153, 27))
        self.assertEqual(top, tidy_of(addresses_of(
            [(153, 27)]) + [x for x in addresses_of(scans) if not 27 <= x <= 153]))
        self.assertEqual(on_top([(3, 8)], (2, 1)), [(2, 1), (3, 8)])
        self.assertEqual(on_top([(3, 8)], (1, 2)), [(1, 8)])
        self.assertEqual(on_top([(3, 8)], (1, 5)), [(1, 8)])
        self.assertEqual(on_top([(3, 8)], (3, 8)), [(3, 8)])
        self.assertEqual(on_top([(3, 8)], (8, 3)), [(8, 3)])

    def test_without_at_the_ends_and_beside(self):
        self.assertEqual(without([(3, 8)], 3, 3), [(4, 8)])
        self.assertEqual(without([(3, 8)], 8, 8), [(3, 7)])
        self.assertEqual(without([(8, 3)], 5, 6), [(8, 7), (4, 3)])
        self.assertEqual(without([(3, 8)], 0, 2), [(3, 8)])
        self.assertEqual(without([(3, 8)], 9, 9), [(3, 8)])
        self.assertEqual(without([(3, 8)], 3, 8), [])
        self.assertEqual(without([(3, 8)], 0, FAR), [])
        self.assertEqual(without([(3, 4), (7, 7), (5, 6)], 7, 7), [(3, 6)])

    def test_far_addresses(self):
        scans = [(FAR, 0), (FAR + 1, 2 * FAR)]
        self.assertEqual(tidy(scans), scans)
        self.assertEqual(count_addresses(scans), 2 * FAR + 1)
        self.assertEqual(turned(scans), [(2 * FAR, FAR + 1), (0, FAR)])
        self.assertEqual(place_of(scans, FAR - 7), 7)
        self.assertEqual(place_of(scans, FAR + 7), FAR + 7)
        self.assertIsNone(place_of(scans, 3 * FAR))
        self.assertEqual(nth_address(scans, FAR), 0)
        self.assertEqual(nth_address(scans, 2 * FAR), 2 * FAR)
        self.assertEqual(first_part(scans, FAR + 3), [(FAR, 0), (FAR + 1, FAR + 2)])
        self.assertEqual(on_top(scans, (5, 5)), [(5, 5), (FAR, 6), (4, 0), (FAR + 1, 2 * FAR)])
        self.assertEqual(without(scans, 5, FAR), [(4, 0), (FAR + 1, 2 * FAR)])

    def test_two_hundred_scans(self):
        up = [(k * FAR, k * FAR + FAR // 2) for k in range(200)]
        self.assertEqual(tidy(up), up)
        self.assertEqual(count_addresses(up), 200 * (FAR // 2 + 1))
        self.assertEqual(turned(up)[0], (199 * FAR + FAR // 2, 199 * FAR))
        self.assertEqual(place_of(up, 199 * FAR), 199 * (FAR // 2 + 1))
        self.assertEqual(nth_address(up, 199 * (FAR // 2 + 1)), 199 * FAR)
        self.assertEqual(first_part(up, FAR), [up[0], (FAR, FAR + FAR // 2 - 2)])
        self.assertEqual(on_top(up, (200 * FAR, 0)), [(200 * FAR, 0)])
        self.assertEqual(without(up, 1, 199 * FAR - 1), [(0, 0), up[199]])
        touching = [(k * FAR, k * FAR + FAR - 1) for k in range(200)]
        self.assertEqual(tidy(touching), [(0, 200 * FAR - 1)])


class PromisesTest(unittest.TestCase):
    def test_argument_unchanged_result_new_and_again_the_same(self):
        for scans in ([(0, 5), (9, 7)], [(0, 1), (2, 5), (9, 9)], []):
            for function, rest in CALLS:
                if function is nth_address and not scans:
                    continue
                before = copy.deepcopy(scans)
                told = function(scans, *rest)
                self.assertEqual(scans, before)
                again = function(scans, *rest)
                self.assertEqual(told, again)
                if isinstance(told, list):
                    self.assertIsNot(told, scans)
                    self.assertIsNot(told, again)
                    told.append(None)
                    self.assertEqual(scans, before)
                    self.assertEqual(function(scans, *rest), again)

    def test_result_stays_if_the_argument_is_changed(self):
        scans = [(0, 5), (9, 7)]
        told = tidy(scans)
        scans.append((20, 30))
        self.assertEqual(told, [(0, 5), (9, 7)])


class WrongArgumentsTest(unittest.TestCase):
    def test_scans(self):
        for function, rest in CALLS:
            for value in NO_LISTS:
                before = repr(value)
                with self.assertRaises(InvalidList, msg=(function, value)):
                    function(value, *rest)
                self.assertEqual(repr(value), before)

    def test_scans_of_a_tuple_or_with_lists(self):
        for value in [((0, 3),), [[0, 3]], [(0, 3), [5, 6]], ((0, 3), (5, 6))]:
            with self.assertRaises(InvalidList):
                tidy(value)

    def test_address(self):
        for value in NO_NUMBERS:
            with self.assertRaises(InvalidAddress):
                place_of([(0, 9)], value)

    def test_index(self):
        for value in [*NO_NUMBERS, 10, 11, FAR]:
            with self.assertRaises(InvalidIndex):
                nth_address([(0, 4), (9, 5)], value)
        for value in [0, None]:
            with self.assertRaises(InvalidIndex):
                nth_address([], value)

    def test_many(self):
        for value in NO_NUMBERS:
            with self.assertRaises(InvalidNumber):
                first_part([(0, 9)], value)

    def test_scan(self):
        for value in [*ODD, 0, 5, [3, 5], (3, 5, 7), (3, -5), (-3, 5), (True, 5), (3, False), (3, None), ("3", "5"),
                      ((3, 5),), [(3, 5)]]:
            with self.assertRaises(InvalidScan):
                on_top([(0, 9)], value)

    def test_interval(self):
        pairs = [(3, 2), (1, 0), (FAR, FAR - 1)]
        pairs.extend((value, 5) for value in NO_NUMBERS)
        pairs.extend((0, value) for value in NO_NUMBERS)
        for low, high in pairs:
            with self.assertRaises(InvalidInterval, msg=(low, high)):
                without([(0, 9)], low, high)

    def test_several_wrong_arguments(self):
        for wrong in [None, ((0, 9),), [(0, 3), (3, 4)]]:
            with self.assertRaises(InvalidList):
                place_of(wrong, -1)
            with self.assertRaises(InvalidList):
                nth_address(wrong, -1)
            with self.assertRaises(InvalidList):
                first_part(wrong, True)
            with self.assertRaises(InvalidList):
                on_top(wrong, [3, 5])
            with self.assertRaises(InvalidList):
                without(wrong, 5, 4)
