"""Caches of several sets, and caches that keep blocks."""

from scanmisses.checks import GREATEST, check_between, check_from
from scanmisses.parts import is_repeat, scans_of
from scanmisses.pieces import flattened
from scanmisses.profiles import Profile
from scanmisses.programs import check_program, program_of
from scanmisses.summaries import profile_of


def set_program(program, sets, number):
    """What a set reads, by own numbers."""
    check_program(program)
    check_between(sets, 1, GREATEST)
    check_between(number, 0, sets - 1)
    return program_of(parts_of_set(program.parts, sets, number))


def set_classes(program, sets):
    """The tuples (first, last, part) of neighbouring sets, as many as possible, that read the same."""
    check_program(program)
    check_between(sets, 1, GREATEST)
    starts = class_starts(program.parts, sets)
    rows = []
    for first, following in zip(starts, starts[1:] + [sets]):
        part = program_of(parts_of_set(program.parts, sets, first))
        # Different scans may leave equal parts.
        if rows and rows[-1][2] == part:
            first = rows.pop()[0]
        rows.append((first, following - 1, part))
    return rows


def set_misses(program, sets, ways):
    """The number of all misses."""
    return sum([(last - first + 1) * misses for first, last, misses in class_misses(program, sets, ways)])


def worst_set(program, sets, ways):
    """The greatest number of misses of a set, and the least set that has it."""
    rows = class_misses(program, sets, ways)
    worst = max([misses for _, _, misses in rows])
    return (worst, min([first for first, _, misses in rows if misses == worst]))


def block_profile(program, width):
    """The profile of a cache that keeps blocks."""
    check_program(program)
    blocks = program.blocks(width)
    profile = profile_of(blocks)
    # A scan that stays in a block reads it again at once.
    again = (1, 1, program.accesses - blocks.accesses)
    return Profile(profile.cold, flattened(profile.pieces + [again]))


def class_misses(program, sets, ways):
    """The tuples (first, last, misses) of the classes; misses are those of each of their sets."""
    classes = set_classes(program, sets)
    check_from(ways, 0)
    return [(first, last, profile_of(part)(ways)) for first, last, part in classes]


def class_starts(parts, sets):
    """The sets, ascending, from 0 on, in which what is read may be unlike that of the set before."""
    starts = [0]
    for first, last in scans_of(parts):
        starts.append(min(first, last) % sets)
        starts.append((max(first, last) + 1) % sets)
    return sorted(set(starts))


def parts_of_set(parts, sets, number):
    """The parts that a set reads, by own numbers."""
    found = ()
    for part in parts:
        if is_repeat(part):
            body = parts_of_set(part[1], sets, number)
            if body:
                found = found + ((part[0], body),)
        else:
            found = found + scans_of_set(part, sets, number)
    return found


def scans_of_set(scan, sets, number):
    """The scan, in a tuple, of the own numbers that a set reads of a scan; the empty tuple if there are none."""
    first, last = scan
    # Own numbers are rounded up at the lesser end, down at the greater one.
    least = (min(first, last) - number + sets - 1) // sets
    greatest = (max(first, last) - number) // sets
    if least > greatest:
        return ()
    return ((least, greatest),) if first <= last else ((greatest, least),)
