import random
import unittest

from plain import BIG, FAR, NO_NUMBERS, ODD, expanded, random_texts, straight_on, tidy_of
from scanmisses.buffers import BudgetBuffer, Buffer
from scanmisses.errors import (
    InvalidAddress, InvalidInterval, InvalidNumber, InvalidOperation, InvalidProgram, InvalidSize, Nothing, ScanError,
    TooManyMisses)
from scanmisses.lists import count_addresses, first_part, nth_address
from scanmisses.programs import Program
from scanmisses.summaries import profile_of, summary_of

TEXTS = [
    "", "0", "0-3", "3-0", "2-9 4", "( 0-3 )5", "( 0-3 3-0 )5", "0-9 5-14", "( ( 12-9 3 )2 5-6 )3 11", "7 7 5",
    "4-6 6-4 5 5", "( ( 0-2 )3 1 )4",
]
FORMS = ["( 0-3 )N", "( 0-3 3-0 )N", "( 5-2 7 )N 3", "( ( 0-2 )N 1 3-1 )N", "6 ( 2-4 ( 8 0-1 )N 5 )N", "( 9 )N 0-4"]


class Played:
    """A cache that is played access by access, with the numbers and calls that a buffer has."""

    def __init__(self, size):
        self.size, self.kept, self.accesses, self.misses = size, [], 0, 0
        self.calls, self.past = [], []

    def keep_state(self, call):
        self.past.append((self.size, list(self.kept), self.accesses, self.misses))
        self.calls.append(call)

    def play(self, program):
        self.keep_state(("play", program))
        before = self.misses
        for address in expanded(program.text):
            self.accesses += 1
            if address in self.kept:
                self.kept.remove(address)
            else:
                self.misses += 1
            self.kept.insert(0, address)
            del self.kept[self.size:]
        return self.misses - before

    def resize(self, size):
        self.keep_state(("resize", size))
        many = len(self.kept)
        self.size = size
        del self.kept[size:]
        return many - len(self.kept)

    def drop(self, low, high):
        self.keep_state(("drop", low, high))
        many = len(self.kept)
        self.kept = [address for address in self.kept if not low <= address <= high]
        return many - len(self.kept)

    def undo(self):
        self.calls.pop()
        self.size, self.kept, self.accesses, self.misses = self.past.pop()


def drawn_call(rnd, texts, top):
    """A call of play, resize or drop."""
    word = rnd.choice(["play", "play", "play", "resize", "drop"])
    if word == "play":
        return (word, Program(rnd.choice(texts)))
    if word == "resize":
        return (word, rnd.choice([0, 1, rnd.randint(0, top), rnd.randint(0, top), top + 5]))
    low = rnd.randint(0, top)
    return (word, low, rnd.randint(low, rnd.choice([low, top, top + 3])))


def perform(buffer, call):
    """The answer of a call that is told as a tuple."""
    word, *rest = call
    return getattr(buffer, word)(*rest)


class BufferTest(unittest.TestCase):
    def check(self, buffer, played, top=16):
        """Holds all that a buffer tells against the cache that is played."""
        self.assertEqual(buffer.size, played.size)
        self.assertEqual(buffer.resident, tidy_of(played.kept))
        self.assertEqual(buffer.kept, len(played.kept))
        self.assertEqual([buffer.accesses, buffer.misses], [played.accesses, played.misses])
        self.assertEqual(buffer.log(), played.calls)
        for address in range(top):
            place = played.kept.index(address) if address in played.kept else None
            self.assertEqual(buffer.place(address), place)

    def state_of(self, buffer):
        return [buffer.size, buffer.resident, buffer.kept, buffer.accesses, buffer.misses, buffer.log()]


class ExamplesTest(unittest.TestCase):
    def test_examples_of_the_document(self):
        wave = Program("0-9 5-14")
        buffer = Buffer(6)
        self.assertEqual(
            [buffer.play(wave), buffer.resident, buffer.play(Program("9-5")), buffer.resident, buffer.place(9),
             buffer.resize(3)],
            [15, [(14, 9)], 4, [(5, 9), (14, 14)], 4, 3])
        self.assertEqual(
            [buffer.resident, buffer.undo(), buffer.kept,
             buffer.preview(("drop", 0, 5), ("play", Program("5-9"))), buffer.misses],
            [[(5, 7)], None, 6, 1, 19])

    def test_classes(self):
        self.assertEqual([Buffer.__module__, BudgetBuffer.__module__], ["scanmisses.buffers"] * 2)
        self.assertTrue(issubclass(BudgetBuffer, Buffer))
        for method in ("__init__", "__eq__", "place", "play", "resize", "drop", "undo", "log", "preview"):
            self.assertIn(method, vars(Buffer))
            self.assertIn(method, vars(BudgetBuffer))

    def test_a_new_buffer(self):
        for buffer in (Buffer(7), BudgetBuffer(7, 3)):
            self.assertEqual([buffer.size, buffer.resident, buffer.kept, buffer.accesses, buffer.misses, buffer.log()],
                             [7, [], 0, 0, 0, []])
            self.assertEqual([buffer.place(0), buffer.preview()], [None, 0])
        self.assertEqual(buffer.most, 3)


class SmallBuffersTest(BufferTest):
    def test_one_program(self):
        for text in TEXTS + random_texts(121, 100):
            for size in range(len(set(expanded(text))) + 2):
                for buffer in (Buffer(size), BudgetBuffer(size, FAR)):
                    played = Played(size)
                    program = Program(text)
                    self.assertEqual(buffer.play(program), played.play(program), (text, size))
                    self.check(buffer, played)
                    self.assertEqual(buffer.misses, profile_of(program)(size))

    def test_drawn_calls(self):
        rnd = random.Random(122)
        texts = TEXTS + random_texts(123, 60, top=9, longest=50)
        for number in range(400):
            top = rnd.choice([3, 8, 14])
            size = rnd.choice([0, 1, 2, rnd.randint(0, top), top + 5])
            buffer = Buffer(size) if number % 3 else BudgetBuffer(size, FAR)
            played = Played(size)
            for _ in range(rnd.randint(5, 40)):
                if rnd.random() < 0.25:
                    self.check_undo(buffer, played)
                else:
                    call = drawn_call(rnd, texts, top)
                    self.check_preview(rnd, buffer, texts, top)
                    self.assertEqual(perform(buffer, call), perform(played, call), call)
                self.check(buffer, played)
            while played.calls:
                self.check_undo(buffer, played)
                self.check(buffer, played)
            self.check_undo(buffer, played)
            self.assertEqual(self.state_of(buffer), [size, [], 0, 0, 0, []])

    def check_undo(self, buffer, played):
        if played.calls:
            self.assertIsNone(buffer.undo())
            played.undo()
        else:
            before = self.state_of(buffer)
            with self.assertRaises(Nothing) as caught:
                buffer.undo()
            self.assertIsInstance(caught.exception, ScanError)
            self.assertEqual(self.state_of(buffer), before)

    def check_preview(self, rnd, buffer, texts, top):
        """Holds a preview against another cache that is played with the same calls; the buffer stays."""
        before = self.state_of(buffer)
        calls = [drawn_call(rnd, texts, top) for _ in range(rnd.randint(0, 4))]
        other = Played(buffer.size)
        other.kept = [nth_address(buffer.resident, place) for place in range(buffer.kept)]
        for call in calls:
            perform(other, call)
        self.assertEqual(buffer.preview(*calls), other.misses)
        self.assertEqual(self.state_of(buffer), before)

    def test_many_calls(self):
        rnd = random.Random(124)
        buffer, played = Buffer(9), Played(9)
        texts = random_texts(125, 50, top=14, longest=30)
        for _ in range(200):
            call = drawn_call(rnd, texts, 14)
            self.assertEqual(perform(buffer, call), perform(played, call))
        self.check(buffer, played)
        self.assertEqual(len(buffer.log()), 200)
        for _ in range(200):
            buffer.undo()
        self.assertEqual(self.state_of(buffer), [9, [], 0, 0, 0, []])

    def test_undo_of_each_kind(self):
        buffer = Buffer(6)
        buffer.play(Program("0-9"))
        one = self.state_of(buffer)
        self.assertEqual(buffer.resize(2), 4)
        self.assertEqual(buffer.resident, [(9, 8)])
        buffer.undo()
        self.assertEqual(self.state_of(buffer), one)
        self.assertEqual(buffer.drop(5, 8), 4)
        self.assertEqual(buffer.resident, [(9, 9), (4, 4)])
        self.assertEqual(buffer.play(Program("8 4 9")), 1)
        buffer.undo()
        buffer.undo()
        self.assertEqual(self.state_of(buffer), one)
        self.assertEqual(buffer.resize(100), 0)
        self.assertEqual([buffer.size, buffer.kept], [100, 6])
        self.assertEqual(buffer.play(Program("0-9")), 4)
        self.assertEqual(buffer.log(), [("play", Program("0-9")), ("resize", 100), ("play", Program("0-9"))])

    def test_calls_that_change_nothing_are_calls(self):
        buffer = Buffer(3)
        self.assertEqual([buffer.play(Program("")), buffer.resize(3), buffer.drop(5, 9)], [0, 0, 0])
        self.assertEqual(buffer.log(), [("play", Program("")), ("resize", 3), ("drop", 5, 9)])
        buffer.undo()
        self.assertEqual(buffer.log(), [("play", Program("")), ("resize", 3)])

    def test_what_is_not_kept_any_more_misses(self):
        buffer = Buffer(10)
        buffer.play(Program("0-9"))
        buffer.drop(3, 5)
        self.assertEqual(buffer.preview(("play", Program("0-9"))), 3)
        self.assertEqual(buffer.preview(("resize", 4), ("play", Program("9-6"))), 0)
        self.assertEqual(buffer.preview(("resize", 4), ("resize", 10), ("play", Program("9-0"))), 6)
        self.assertEqual(buffer.preview(("drop", 0, FAR), ("play", Program("9-0"))), 10)

    def test_size_zero(self):
        buffer = Buffer(0)
        self.assertEqual([buffer.play(Program("( 0-3 0 )4")), buffer.resident, buffer.kept], [20, [], 0])
        self.assertEqual([buffer.resize(4), buffer.play(Program("( 0-3 0 )4"))], [0, 4])
        self.assertEqual(buffer.resident, [(0, 0), (3, 1)])
        self.assertEqual([buffer.resize(0), buffer.resident], [4, []])

    def test_returned_lists_are_new(self):
        for buffer in (Buffer(5), BudgetBuffer(5, 100)):
            buffer.play(Program("0-9 3"))
            before = self.state_of(buffer)
            buffer.resident.append((77, 77))
            buffer.resident.clear()
            buffer.log().append(("resize", 3))
            buffer.log().pop(0)
            self.assertEqual(self.state_of(buffer), before)
            past = buffer.resident
            buffer.play(Program("20-30"))
            self.assertEqual(past, before[1])


class GreatBuffersTest(BufferTest):
    def test_programs_one_behind_the_other(self):
        rnd = random.Random(126)
        for _ in range(25):
            width, shift = rnd.choice([(1, 0), (10 ** 28, 0), (7, FAR), (10 ** 28, 10 ** 90)])
            size = rnd.choice([1, 3, 5, 8, 20]) * width + rnd.randint(0, width)
            buffer, whole = Buffer(size), Program("")
            for _ in range(5):
                form = rnd.choice(FORMS)
                program = Program(form.replace("N", str(rnd.choice([2, 10 ** 6, BIG])))).spread(width).moved(shift)
                before = summary_of(whole).profile(size)
                whole = whole + program
                told = summary_of(whole)
                self.assertEqual(buffer.preview(("play", program)), told.profile(size) - before)
                self.assertEqual(buffer.play(program), told.profile(size) - before)
                self.assertEqual(buffer.misses, told.profile(size))
                self.assertEqual(buffer.accesses, whole.accesses)
                self.assertEqual(buffer.resident, first_part(told.lasts, size))
                self.assertEqual(buffer.kept, count_addresses(buffer.resident))
                for place in (0, buffer.kept // 2, buffer.kept - 1):
                    self.assertEqual(buffer.place(nth_address(buffer.resident, place)), place)

    def test_great_repeats_among_calls(self):
        rnd = random.Random(127)
        for _ in range(30):
            size = rnd.randint(0, 9)
            calls = []
            for _ in range(7):
                word = rnd.choice(["play", "play", "resize", "drop"])
                low = rnd.randint(0, 9)
                calls.append({"play": ("play", rnd.choice(FORMS)), "resize": ("resize", rnd.randint(0, 9)),
                              "drop": ("drop", low, rnd.randint(low, 9))}[word])
            buffer, few = Buffer(size), Played(size)
            for call in calls:
                if call[0] != "play":
                    self.assertEqual(perform(buffer, call), perform(few, call))
                else:
                    form, kept, now = call[1].replace("N", "{}"), list(few.kept), few.size

                    def numbers(times):
                        other = Played(now)
                        other.kept = list(kept)
                        return [other.play(Program(form.format(*times)))]
                    levels = call[1].count("N")
                    expected = straight_on(numbers, levels, 2, [BIG] * levels)
                    self.assertEqual(buffer.play(Program(form.format(*[BIG] * levels))), expected[0])
                    few.play(Program(form.format(*[2] * levels)))
                self.assertEqual(buffer.resident, tidy_of(few.kept))
                self.assertEqual([buffer.kept, buffer.size], [len(few.kept), few.size])
            for _ in calls:
                buffer.undo()
            self.assertEqual(self.state_of(buffer), [size, [], 0, 0, 0, []])

    def test_great_addresses(self):
        rnd = random.Random(128)
        for _ in range(25):
            width = rnd.choice([2, 10 ** 28, 10 ** 28 - 1])
            size = rnd.randint(0, 9)
            small, great = Buffer(size), Buffer(size * width)
            for _ in range(8):
                call = drawn_call(rnd, [form.replace("N", str(BIG)) for form in FORMS], 9)
                wide = {"play": lambda program: ("play", program.spread(width)),
                        "resize": lambda many: ("resize", many * width),
                        "drop": lambda low, high: ("drop", low * width, high * width + width - 1)}[call[0]](*call[1:])
                self.assertEqual(perform(great, wide), width * perform(small, call))
                self.assertEqual([great.kept, great.accesses, great.misses],
                                 [width * number for number in (small.kept, small.accesses, small.misses)])
                places = [great.place(address * width) for address in range(12)]
                for address, place in enumerate(places):
                    told = small.place(address)
                    self.assertEqual(None if place is None else place // width, told)

    def test_great_scans(self):
        buffer = Buffer(10 ** 29)
        self.assertEqual(buffer.play(Program(f"0-{BIG}")), BIG + 1)
        self.assertEqual(buffer.resident, [(BIG, BIG + 1 - 10 ** 29)])
        self.assertEqual(buffer.play(Program(f"( {BIG}-0 ){BIG}")), BIG + 1 - 10 ** 29 + (BIG + 1) * (BIG - 1))
        self.assertEqual(buffer.drop(5, 10 ** 28), 10 ** 28 - 4)
        self.assertEqual(buffer.resident, [(0, 4), (10 ** 28 + 1, 10 ** 29 - 1)])
        self.assertEqual(buffer.place(10 ** 29 - 1), 10 ** 29 - 10 ** 28 + 3)
        self.assertEqual(buffer.resize(7), buffer.preview() + 10 ** 29 - 10 ** 28 + 4 - 7)
        self.assertEqual(buffer.resident, [(0, 4), (10 ** 28 + 1, 10 ** 28 + 2)])
        self.assertEqual(buffer.resize(FAR), 0)
        self.assertEqual(buffer.size, FAR)


class BudgetTest(BufferTest):
    def test_reached_and_exceeded(self):
        for text in TEXTS + random_texts(129, 60):
            program = Program(text)
            for size in (0, 1, 3, 20):
                misses = profile_of(program)(size)
                buffer = BudgetBuffer(size, misses)
                self.assertEqual(buffer.play(program), misses)
                if misses:
                    self.check_exceeded(BudgetBuffer(size, misses - 1), program, misses)
                    self.check_exceeded(BudgetBuffer(size, 0), program, misses)
                again = profile_of(program * 2)(size)
                if again > misses:
                    self.check_exceeded(buffer, program, again)
                else:
                    self.assertEqual(buffer.play(program), 0)

    def check_exceeded(self, buffer, program, total):
        before = self.state_of(buffer)
        with self.assertRaises(TooManyMisses) as caught:
            buffer.play(program)
        self.assertEqual(caught.exception.total, total)
        self.assertIsInstance(caught.exception, ScanError)
        with self.assertRaises(TooManyMisses) as caught:
            buffer.preview(("play", program))
        self.assertEqual(caught.exception.total, total)
        self.assertEqual(self.state_of(buffer), before)

    def test_behind_undo(self):
        buffer = BudgetBuffer(4, 9)
        self.assertEqual(buffer.play(Program("0-4")), 5)
        self.check_exceeded(buffer, Program("0-4"), 10)
        self.assertEqual(buffer.play(Program("0-3")), 4)
        self.assertEqual(buffer.play(Program("( 3-0 )9")), 0)
        self.check_exceeded(buffer, Program("7"), 10)
        buffer.undo()
        buffer.undo()
        self.assertEqual(buffer.play(Program("4-1 7")), 1)
        self.assertEqual(buffer.misses, 6)
        buffer.undo()
        buffer.undo()
        self.assertEqual(self.state_of(buffer), [4, [], 0, 0, 0, []])
        self.assertEqual(buffer.play(Program("0-8")), 9)

    def test_previews(self):
        buffer = BudgetBuffer(4, 9)
        buffer.play(Program("0-3"))
        before = self.state_of(buffer)
        self.assertEqual(buffer.preview(("drop", 0, 9), ("play", Program("0-3")), ("play", Program("5"))), 5)
        with self.assertRaises(TooManyMisses) as caught:
            buffer.preview(("drop", 0, 9), ("play", Program("0-3")), ("play", Program("5-6")), ("resize", None))
        self.assertEqual(caught.exception.total, 10)
        with self.assertRaises(InvalidSize):
            buffer.preview(("resize", None), ("play", Program("5-99")))
        with self.assertRaises(TooManyMisses):
            buffer.preview(("resize", 0), ("play", Program("5-99")), ("play", None))
        self.assertEqual(self.state_of(buffer), before)

    def test_most_zero(self):
        buffer = BudgetBuffer(4, 0)
        self.assertEqual([buffer.play(Program("")), buffer.resize(3), buffer.drop(0, 3)], [0, 0, 0])
        self.check_exceeded(buffer, Program("7"), 1)
        self.assertEqual(buffer.most, 0)

    def test_great_numbers(self):
        program = Program(f"( 0-{BIG} ){BIG}")
        many = (BIG + 1) * BIG
        self.assertEqual(BudgetBuffer(5, many).play(program), many)
        self.check_exceeded(BudgetBuffer(5, many - 1), program, many)
        self.assertEqual(BudgetBuffer(BIG + 1, BIG + 1).play(program), BIG + 1)
        self.check_exceeded(BudgetBuffer(BIG + 1, BIG), program, BIG + 1)


class EqualityTest(unittest.TestCase):
    def test_buffers(self):
        one, two = Buffer(4), Buffer(4)
        self.assertTrue(one == two)
        one.play(Program("0-9"))
        self.assertFalse(one == two)
        two.play(Program("( 6-9 )3"))
        self.assertTrue(one == two)
        self.assertFalse(one != two)
        two.resize(5)
        self.assertFalse(one == two)
        two.resize(4)
        self.assertTrue(one == two)
        two.play(Program("9-6"))
        self.assertFalse(one == two)
        one.drop(0, 20)
        two.drop(0, 20)
        self.assertTrue(one == two)
        self.assertTrue(one == one)

    def test_budget_buffers(self):
        one, two = BudgetBuffer(4, 9), BudgetBuffer(4, 9)
        self.assertTrue(one == two)
        self.assertFalse(one == BudgetBuffer(4, 8))
        self.assertFalse(one == BudgetBuffer(5, 9))
        one.play(Program("0-3"))
        self.assertFalse(one == two)
        two.play(Program("0-3 0"))
        self.assertFalse(one == two)
        two.play(Program("1-3"))
        self.assertTrue(one == two)

    def test_unlike_classes(self):
        for size in (0, 3):
            one, two = Buffer(size), BudgetBuffer(size, 9)
            for program in (Program(""), Program("0-3")):
                one.play(program)
                two.play(program)
                self.assertFalse(one == two)
                self.assertFalse(two == one)
                self.assertTrue(one != two)
                self.assertFalse(one.__eq__(two))
                self.assertFalse(two.__eq__(one))

    def test_other_values(self):
        for value in [*ODD, 4, [(0, 3)], Program(""), Buffer, BudgetBuffer, profile_of(Program("0"))]:
            for buffer in (Buffer(4), BudgetBuffer(4, 9)):
                self.assertFalse(buffer == value)
                self.assertFalse(value == buffer)
                self.assertTrue(buffer != value)


class WrongArgumentsTest(BufferTest):
    def setUp(self):
        self.buffers = [Buffer(4), BudgetBuffer(4, 100)]
        for buffer in self.buffers:
            buffer.play(Program("0-9"))
        self.before = [self.state_of(buffer) for buffer in self.buffers]

    def tearDown(self):
        self.assertEqual([self.state_of(buffer) for buffer in self.buffers], self.before)

    def test_new_ones(self):
        for value in NO_NUMBERS:
            with self.assertRaises(InvalidSize, msg=value):
                Buffer(value)
            for most in (0, None, -1):
                with self.assertRaises(InvalidSize, msg=value):
                    BudgetBuffer(value, most)
            with self.assertRaises(InvalidNumber, msg=value) as caught:
                BudgetBuffer(3, value)
            self.assertIsInstance(caught.exception, ScanError)
            self.assertIsInstance(caught.exception, ValueError)

    def test_program(self):
        for value in [*ODD, 0, "0-3", [(0, 3)], Program, self.buffers[0]]:
            for buffer in self.buffers:
                with self.assertRaises(InvalidProgram, msg=value):
                    buffer.play(value)

    def test_size_and_address(self):
        for value in NO_NUMBERS:
            for buffer in self.buffers:
                with self.assertRaises(InvalidSize, msg=value):
                    buffer.resize(value)
                with self.assertRaises(InvalidAddress, msg=value):
                    buffer.place(value)

    def test_interval(self):
        pairs = [(1, 0), (5, 4), (FAR, 0), (-1, 3), (-3, -1), (0, -1)]
        pairs += [(odd, 3) for odd in NO_NUMBERS] + [(3, odd) for odd in NO_NUMBERS]
        for low, high in pairs:
            for buffer in self.buffers:
                with self.assertRaises(InvalidInterval, msg=(low, high)):
                    buffer.drop(low, high)

    def test_operations(self):
        program = Program("0-3")
        wrong = [None, True, 0, "", "play", b"play", (), [], {}, ("play",), ("play", program, 1), ["play", program],
                 ("resize",), ("resize", 1, 2), ["resize", 3], ("drop",), ("drop", 1), ("drop", 1, 2, 3),
                 ["drop", 1, 2],
                 ("undo",), ("undo", 1), ("log", 1), ("Play", program), ("play ", program), (b"play", program),
                 (None, program), (program, "play"), (["play"], program), ({}, 1), (1, 2), (("play", program),),
                 ("place", 1), ("preview", 1), {"play": program}, program, (True, 1, 2), ("", 3)]
        for value in wrong:
            for buffer in self.buffers:
                for calls in ((value,), (("play", program), value), (value, ("play", None)), (("play", None), value),
                              (("resize", -1), ("drop", 3, 2), value)):
                    with self.assertRaises(InvalidOperation, msg=value) as caught:
                        buffer.preview(*calls)
                    self.assertIsInstance(caught.exception, ScanError)
                    self.assertIsInstance(caught.exception, ValueError)

    def test_errors_of_the_calls_in_order(self):
        program = Program("0-3")
        for buffer in self.buffers:
            for value in [*ODD, 0, "0-3"]:
                with self.assertRaises(InvalidProgram, msg=value):
                    buffer.preview(("play", value))
                with self.assertRaises(InvalidProgram, msg=value):
                    buffer.preview(("play", program), ("play", value), ("resize", None), ("drop", 2, 1))
            for value in NO_NUMBERS:
                with self.assertRaises(InvalidSize, msg=value):
                    buffer.preview(("play", program), ("resize", value), ("play", None))
                with self.assertRaises(InvalidInterval, msg=value):
                    buffer.preview(("drop", value, 3), ("resize", value), ("play", None))
                with self.assertRaises(InvalidInterval, msg=value):
                    buffer.preview(("play", program), ("drop", 0, value))

    def test_nothing_to_take_back(self):
        for buffer in (Buffer(3), BudgetBuffer(3, 9)):
            for _ in range(2):
                with self.assertRaises(Nothing):
                    buffer.undo()
            buffer.preview(("play", Program("0")))
            with self.assertRaises(Nothing):
                buffer.undo()
            with self.assertRaises(InvalidSize):
                buffer.resize(-1)
            with self.assertRaises(Nothing):
                buffer.undo()
