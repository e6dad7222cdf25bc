"""What the modules promise together."""

import itertools
import random
import unittest

from plain import BIG, FAR, expanded, random_texts
from scanmisses.buffers import BudgetBuffer, Buffer
from scanmisses.console import Console
from scanmisses.levels import level_misses, level_profile, stacked_hits
from scanmisses.lists import count_addresses, first_part, nth_address, tidy, turned
from scanmisses.misses import count_misses, missed, nth_miss
from scanmisses.points import program_for
from scanmisses.profiles import Profile
from scanmisses.programs import Program
from scanmisses.rounds import best_directions, direction_changes, round_floor, round_profile
from scanmisses.same import parting, same_everywhere
from scanmisses.sets import block_profile, set_classes, set_misses, set_program, worst_set
from scanmisses.splits import best_split, least_whole
from scanmisses.steps import address_at, count_reads, distance_at, nth_read, parted, written
from scanmisses.summaries import between, profile_of, summary_of

TEXTS = [
    "", "0", "0-3", "2-9 4", "( 0-3 )5", "( 0-3 3-0 )5", "0-9 5-14", "( ( 12-9 3 )2 5-6 )3 11", "4-6 6-4 5 5",
    "( ( 0-2 )3 1 )4", "5 ( 6 ( 7-9 ( 8-6 )2 4 )3 )2 1",
]
GREAT = [
    f"( 0-3 ){BIG}", f"( ( 0-3 3-0 ){BIG} 2-5 ){BIG}", f"0-{BIG} ( {BIG}-7 ){BIG}",
    f"( 5-8 ( 6-2 ( 7 ){BIG} )9 ){BIG} 1",
    f"( 0-{10 ** 28} ( {10 ** 27}-5 ){BIG} ){BIG}", f"( 4 0-9 ){BIG} 12-5",
]


def text_of(scans):
    return " ".join(f"{first}-{last}" if first != last else str(first) for first, last in scans)


def sizes_for(program):
    """Some sizes from 0 to beyond all addresses of a program."""
    many = profile_of(program).cold
    return sorted({0, 1, 2, 3, many // 3, many // 2, max(0, many - 1), many, many + 1})


class SameEverywhereTest(unittest.TestCase):
    def pairs(self):
        """Pairs of programs that are the same everywhere but written in other ways."""
        for text in ("0-3", "5-2 7", "( 0-3 )4", "2 2", "0-9 5-14"):
            program = Program(text)
            yield program * 3, program + program + program
            yield program * 2 + program, program + program * 2
        yield Program("0-9"), Program("0-4 5-9")
        yield Program("9-0"), Program("9 8-1 0")
        yield Program("( 0-3 ( 3-0 )2 )3"), Program("0-3 ( 3-0 )2 ( 0-3 ( 3-0 )2 )2")
        yield Program(f"( 0-{BIG} ){BIG}"), Program(f"0-5 6-{BIG} ( 0-{BIG} ){BIG - 1}")

    def test_behind_and_ahead_of_everything(self):
        for one, two in self.pairs():
            self.assertTrue(same_everywhere(one, two))
            self.assertIsNone(parting(one, two))
            for text in TEXTS + GREAT:
                other = Program(text)
                self.assertEqual(summary_of(other + one), summary_of(other + two))
                self.assertEqual(summary_of(one + other), summary_of(two + other))
                self.assertEqual(summary_of((other + one) * BIG), summary_of((other + two) * BIG))
                for size in (0, 1, 4, BIG):
                    self.assertEqual(self.played(other, one, other, size), self.played(other, two, other, size))

    def played(self, ahead, program, behind, size):
        """What a buffer tells of three programs one behind the other."""
        buffer = Buffer(size)
        told = [buffer.play(part) for part in (ahead, program, behind)]
        return [*told, buffer.resident, buffer.accesses, buffer.misses]

    def test_parting_tells_buffers_apart(self):
        texts = [text for text in TEXTS if text] + random_texts(141, 40)
        for one, two in zip(texts, texts[1:]):
            told = parting(Program(one), Program(two))
            if told is not None:
                ahead, behind, size = told
                misses = []
                for text in (one, two):
                    buffer = Buffer(size)
                    for part in (ahead, Program(text), behind):
                        buffer.play(part)
                    misses.append(buffer.misses)
                self.assertNotEqual(misses[0], misses[1])


class SpreadTest(unittest.TestCase):
    def test_all_functions(self):
        rnd = random.Random(142)
        for text in TEXTS + GREAT[:2] + random_texts(143, 25):
            plain = Program(text)
            for width in (2, 3, 10 ** 28):
                wide = plain.spread(width)
                for size in range(9):
                    misses = profile_of(plain)(size)
                    self.assertEqual(profile_of(wide)(size * width), misses * width)
                    self.assertEqual(missed(wide, size * width).accesses, misses * width)
                    self.assertEqual(Buffer(size * width).play(wide), misses * width)
                    self.assertEqual(BudgetBuffer(size * width, misses * width).play(wide), misses * width)
                    self.assertEqual(level_misses(wide, [size * width, 2 * width]),
                                     [width * many for many in level_misses(plain, [size, 2])])
                    self.assertEqual(stacked_hits(wide, [size * width, width]),
                                     [width * many for many in stacked_hits(plain, [size, 1])])
                    self.assertEqual(set_misses(wide, width, size), misses * width)
                    self.assertEqual(worst_set(wide, width, size), (misses, 0))
                    self.assertEqual(round_profile(wide)(size * width), round_profile(plain)(size) * width)
                    self.assertEqual(round_floor(wide, size * width), round_floor(plain, size) * width)
                    split = best_split([plain, plain], size)
                    self.assertEqual(best_split([wide, wide], size * width),
                                     (split[0] * width, tuple(part * width for part in split[1])))
                    many = rnd.randint(0, plain.accesses)
                    self.assertEqual(count_misses(wide, size * width, many * width),
                                     count_misses(plain, size, many) * width)
                    if misses:
                        index = rnd.randrange(misses)
                        self.assertEqual(nth_miss(wide, size * width, index * width),
                                         nth_miss(plain, size, index) * width)
                self.assertEqual(set_classes(wide, width), [(0, width - 1, plain)])
                self.assertEqual(wide.blocks(width), plain)
                self.assertEqual([block_profile(wide, width)(size) for size in range(1, 9)],
                                 [profile_of(plain)(size) for size in range(1, 9)])


class ListsAsProgramsTest(unittest.TestCase):
    def test_firsts_and_lasts(self):
        for text in TEXTS + GREAT + random_texts(144, 60):
            told = summary_of(Program(text))
            firsts, lasts = Program(text_of(told.firsts)), Program(text_of(told.lasts))
            self.assertEqual([firsts.scans, lasts.scans], [told.firsts, told.lasts])
            self.assertEqual(summary_of(firsts).firsts, told.firsts)
            self.assertEqual(summary_of(~lasts).lasts, told.lasts)
            self.assertEqual(summary_of(firsts).lasts, turned(told.firsts))
            self.assertEqual(profile_of(firsts), Profile(told.profile.cold, []))
            # The program again behind itself: its firsts behind its lasts.
            behind = profile_of(~lasts + firsts)
            straight = between(told.lasts, told.firsts)
            self.assertEqual(behind, Profile(told.profile.cold, []) + straight)
            self.assertEqual(told.profile + Profile(0, told.profile.pieces) + straight, profile_of(Program(text) * 2))

    def test_resident_as_a_program(self):
        for text in TEXTS + GREAT:
            for size in (0, 1, 3, 7, BIG):
                buffer = Buffer(size)
                buffer.play(Program(text))
                kept = Program(text_of(buffer.resident))
                self.assertEqual(buffer.preview(("play", kept)), 0)
                self.assertEqual(buffer.preview(("play", ~kept)), 0)
                resident = buffer.resident
                buffer.play(~kept)
                self.assertEqual(buffer.resident, resident)
                buffer.play(kept)
                self.assertEqual(buffer.resident, turned(resident))


class PartsTest(unittest.TestCase):
    def test_parted_at_any_access(self):
        rnd = random.Random(145)
        for text in TEXTS + GREAT + random_texts(146, 30):
            program = Program(text)
            for _ in range(5):
                many = rnd.randint(0, program.accesses)
                head, tail = parted(program, many)
                for size in sizes_for(program):
                    buffer, whole = Buffer(size), Buffer(size)
                    self.assertEqual(buffer.play(head), profile_of(head)(size))
                    self.assertEqual(buffer.play(tail) + profile_of(head)(size), whole.play(program))
                    self.assertTrue(buffer == whole)
                    self.assertEqual(buffer.misses, whole.misses)
                    self.assertEqual(count_misses(program, size, many), profile_of(head)(size))

    def test_one_behind_the_other(self):
        rnd = random.Random(147)
        for _ in range(40):
            programs = [Program(text) for text in rnd.choices(TEXTS + GREAT, k=4)]
            whole = programs[0] + programs[1] + programs[2] + programs[3]
            for size in (0, 1, 5, 9, BIG):
                buffer = Buffer(size)
                told = [buffer.play(program) for program in programs]
                self.assertEqual(sum(told), profile_of(whole)(size))
                self.assertEqual(buffer.resident, first_part(summary_of(whole).lasts, size))
                self.assertEqual(buffer.accesses, whole.accesses)

    def test_a_lesser_buffer_keeps_the_first_part(self):
        rnd = random.Random(148)
        for _ in range(80):
            lesser, greater = Buffer(rnd.randint(0, 6)), Buffer(rnd.choice([6, 9, BIG]))
            for _ in range(10):
                low, word = rnd.randint(0, 12), rnd.choice(["play", "play", "play", "drop", "resize"])
                if word == "play":
                    program = Program(rnd.choice(TEXTS + GREAT))
                    self.assertGreaterEqual(lesser.play(program), greater.play(program))
                elif word == "drop":
                    self.assertLessEqual(lesser.drop(low, low + 1), greater.drop(low, low + 1))
                else:
                    self.assertLessEqual(lesser.resize(low), greater.resize(low))
                self.assertEqual(lesser.resident, first_part(greater.resident, lesser.kept))

    def test_a_loop_of_parts_with_no_address_in_common(self):
        for one, two in itertools.product(TEXTS + GREAT[:2], repeat=2):
            first, second = Program(one), Program(two).moved(100)
            told = round_profile(first + second)
            many = [profile_of(first).cold, profile_of(second).cold]
            for size in range(0, 40, 3):
                expected = 0
                for program, others in ((first, many[1]), (second, many[0])):
                    summary = summary_of(program)
                    inside = summary.profile(size) - summary.profile.cold
                    # All addresses of the other part are read between two rounds of this one.
                    expected += inside + between(summary.lasts, summary.firsts)(max(0, size - others))
                self.assertEqual(told(size), expected, (one, two, size))


class SetsTest(unittest.TestCase):
    def test_a_multiple_of_the_sets(self):
        for text in TEXTS + GREAT + random_texts(149, 30):
            program = Program(text)
            for sets, times, ways in itertools.product((1, 2, 3), (2, 3, 10 ** 20), (0, 1, 2, 5)):
                more, fewer = set_misses(program, sets * times, ways), set_misses(program, sets, ways)
                self.assertLessEqual(more, fewer)
                self.assertLessEqual(worst_set(program, sets * times, ways)[0], worst_set(program, sets, ways)[0])
                part = set_program(program, sets, sets - 1)
                self.assertEqual(set_program(part, times, times - 1),
                                 set_program(program, sets * times, sets * times - 1))

    def test_reads_of_all_sets(self):
        for text in GREAT:
            program = Program(text)
            for sets in (1, 3, 10 ** 15, BIG):
                for first, last, part in set_classes(program, sets):
                    for number in {first, last}:
                        for address in (0, 1, 5, BIG):
                            self.assertEqual(count_reads(part, address),
                                             count_reads(program, address * sets + number))


class EqualProfilesTest(unittest.TestCase):
    def alike(self):
        """Pairs of programs with equal profiles that are not the same everywhere."""
        for text in TEXTS + GREAT:
            program = Program(text)
            yield program, ~program
            yield program, program.moved(FAR)
            yield program, program.mirrored(BIG)
            profile = profile_of(program)
            points = {d: profile.at(d) for d in [*range(1, 20), profile.cold] if d and 0 < profile.at(d) <= BIG}
            if len(points) <= 8:
                made = program_for(profile.cold, points) if profile.cold <= BIG else None
                if made is not None and profile_of(made) == profile:
                    yield program, made

    def test_numbers_of_misses(self):
        for one, two in self.alike():
            self.assertEqual(profile_of(one), profile_of(two))
            for size in sizes_for(one):
                self.assertEqual(missed(one, size).accesses, missed(two, size).accesses)
                self.assertEqual(level_misses(one, [size]), level_misses(two, [size]))
                self.assertEqual(stacked_hits(one, [1, size]), stacked_hits(two, [1, size]))
                self.assertEqual(Buffer(size).play(one), Buffer(size).play(two))
                for other in (Program("( 0-5 )4"), Program(GREAT[1])):
                    self.assertEqual(best_split([one, other], size), best_split([two, other], size))
                    self.assertEqual(best_split([other, one, one], size), best_split([other, two, one], size))
                    for misses in (10, one.accesses, profile_of(one).cold + 3 + BIG):
                        self.assertEqual(least_whole([one, other], misses), least_whole([two, other], misses))

    def test_splits_against_profiles(self):
        for one, two in itertools.pairwise(TEXTS + GREAT):
            programs = [Program(one), Program(two)]
            profiles = [profile_of(program) for program in programs]
            for size in (0, 1, 4, 9, 20, BIG):
                misses, sizes = best_split(programs, size)
                self.assertEqual(misses, sum(profile(part) for profile, part in zip(profiles, sizes)))
                buffers = [Buffer(part) for part in sizes]
                self.assertEqual(misses, sum(buffer.play(part) for buffer, part in zip(buffers, programs)))
                self.assertLessEqual(least_whole(programs, misses), size)

    def test_one_program_alone(self):
        for text in TEXTS + GREAT:
            program, profile = Program(text), profile_of(Program(text))
            for size in sizes_for(program):
                self.assertEqual(best_split([program], size), (profile(size), (size,)))
                for misses in (profile(size), profile(size) + 1, max(0, profile(size) - 1)):
                    self.assertEqual(least_whole([program], misses), profile.least_size(misses))


class MissesTest(unittest.TestCase):
    def test_against_distances(self):
        rnd = random.Random(150)
        for text in TEXTS[1:] + GREAT:
            program = Program(text)
            for size in sizes_for(program):
                told, many = missed(program, size), profile_of(program)(size)
                for index in {0, many - 1, rnd.randrange(many)}:
                    place = nth_miss(program, size, index)
                    distance = distance_at(program, place)
                    self.assertTrue(distance is None or distance > size)
                    self.assertEqual(address_at(program, place), address_at(told, index))
                    self.assertEqual(count_misses(program, size, place), index)
                for place in (rnd.randrange(program.accesses), program.accesses - 1):
                    distance, ahead = distance_at(program, place), count_misses(program, size, place)
                    misses = distance is None or distance > size
                    self.assertEqual(count_misses(program, size, place + 1) - ahead, misses)

    def test_levels_against_buffers(self):
        for text in TEXTS + random_texts(151, 30):
            program = Program(text)
            for sizes in ([2], [1, 3], [2, 2, 5]):
                told = program
                for size, many in zip(sizes, level_misses(program, sizes)):
                    self.assertEqual(Buffer(size).play(told), many)
                    told = missed(told, size)
                self.assertEqual(level_profile(program, sizes), profile_of(told))

    def test_reads_of_what_misses(self):
        for text in TEXTS[1:] + GREAT:
            program = Program(text)
            for size in (0, 2, 5):
                told = missed(program, size)
                for address in (0, 3, 7):
                    if count_reads(told, address):
                        place = nth_miss(program, size, nth_read(told, address, 0))
                        self.assertEqual(place, nth_read(program, address, 0))
                        self.assertIsNone(distance_at(program, place))


class DirectionsTest(unittest.TestCase):
    def test_against_buffers(self):
        rnd = random.Random(152)
        for _ in range(15):
            bodies = [(rnd.randint(0, 9), rnd.randint(0, 9)) for _ in range(3)]
            for size in range(11):
                misses = {}
                for turns in itertools.product((False, True), repeat=3):
                    body = Program(text_of([scan[::-1] if turn else scan for scan, turn in zip(bodies, turns)]))
                    buffer = Buffer(size)
                    buffer.play(body * BIG)
                    misses[turns] = buffer.play(body)
                    self.assertGreaterEqual(misses[turns], round_floor(body, size))
                best = min(misses.values())
                self.assertEqual(tuple(best_directions(bodies, size)),
                                 min(turns for turns in misses if misses[turns] == best))
            rows = direction_changes(bodies)
            self.assertEqual([best_directions(bodies, size) for size, _ in rows], [turns for _, turns in rows])


class ConsoleTest(unittest.TestCase):
    def test_what_a_session_tells(self):
        for text in TEXTS + GREAT:
            console, buffer, program = Console(), Buffer(7), Program(text)
            console.execute("program " + text)
            console.execute("buffer 7")
            for _ in range(3):
                self.assertEqual(console.execute("play"), str(buffer.play(program)))
                self.assertEqual(console.execute("drop 2 4"), str(buffer.drop(2, 4)))
                self.assertEqual(console.execute("resident"), text_of(buffer.resident) or "-")
            split = best_split([program], 7)
            self.assertEqual(console.execute("misses 7"), str(split[0]))
            least = least_whole([program], split[0])
            self.assertEqual(console.execute(f"least {split[0]}"), str(least))
            self.assertEqual(console.execute("same " + (program + Program("")).text), "yes")
            self.assertEqual(console.execute("firsts"), text_of(summary_of(program).firsts) or "-")


class ReturnedValuesTest(unittest.TestCase):
    def test_returned_programs_are_passed_on(self):
        for text in TEXTS + GREAT[:2]:
            program = Program(text) * BIG
            for told in (missed(program, 3), parted(program, program.accesses // 2)[1], set_program(program, 2, 1),
                         program.spread(BIG).moved(FAR)):
                summary = summary_of(told)
                self.assertEqual(summary.profile.accesses, told.accesses)
                self.assertEqual(count_addresses(summary.firsts), summary.profile.cold)
                self.assertEqual(tidy(summary.firsts), summary.firsts)
                self.assertEqual(missed(told, 2).accesses, summary.profile(2))
                self.assertEqual(Buffer(2).play(told), summary.profile(2))
                if summary.profile.cold:
                    self.assertEqual(nth_address(summary.firsts, 0), address_at(told, 0))
                    size = summary.profile.corners[-1] if summary.profile.corners else 0
                    self.assertEqual(summary.profile(size), summary.profile.cold)

    def test_small_ones_are_written(self):
        for text in TEXTS:
            for size in (0, 2, 4):
                accesses = written(missed(Program(text), size))
                self.assertEqual(len(accesses), Buffer(size).play(Program(text)))
            self.assertEqual(written(~Program(text)), expanded(text)[::-1])
