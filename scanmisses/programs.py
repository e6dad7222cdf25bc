"""Programs: sequences of scans and repeats, as texts and as values to reckon with."""

from scanmisses.checks import GREATEST, check_between, check_integer
from scanmisses.errors import InvalidNumber, InvalidProgram, InvalidPrograms
from scanmisses.parts import backwards, changed, count_accesses, repeated, scans_of
from scanmisses.texts import read_text, words_of

MOST_PROGRAMS = 3


class Program:
    """A program; it never changes. parts are what it consists of, as parts.py tells."""

    def __init__(self, text):
        self.parts = read_text(text)

    @property
    def text(self):
        """The words, with single spaces between them."""
        return " ".join(words_of(self.parts))

    @property
    def scans(self):
        """The list of the scans as they are written."""
        return scans_of(self.parts)

    @property
    def accesses(self):
        """The number of accesses."""
        return count_accesses(self.parts)

    def __add__(self, other):
        check_program(other)
        return program_of(self.parts + other.parts)

    def __mul__(self, times):
        check_between(times, 0, GREATEST)
        return program_of(repeated(self.parts, times))

    def __invert__(self):
        return program_of(backwards(self.parts))

    def __eq__(self, other):
        # Each program has one text, so equal parts are equal texts.
        return isinstance(other, Program) and self.parts == other.parts

    def moved(self, shift):
        """The program with each address plus shift."""
        check_integer(shift)
        return placed(changed(self.parts, lambda scan: (scan[0] + shift, scan[1] + shift)))

    def mirrored(self, top):
        """The program with top less each address."""
        check_integer(top)
        return placed(changed(self.parts, lambda scan: (top - scan[0], top - scan[1])))

    def spread(self, width):
        """The program with the addresses from width * x on, so many as width, for each address x."""
        check_between(width, 1, GREATEST)
        return program_of(changed(self.parts, lambda scan: spread_scan(scan, width)))

    def blocks(self, width):
        """The program that reads blocks of a width instead of addresses."""
        check_between(width, 1, GREATEST)
        return program_of(changed(self.parts, lambda scan: (scan[0] // width, scan[1] // width)))


def check_program(program):
    """Checks that a value is a program."""
    if not isinstance(program, Program):
        raise InvalidProgram("not a Program")


def check_programs(programs):
    """Checks the programs that share a cache."""
    if not isinstance(programs, list) or not 1 <= len(programs) <= MOST_PROGRAMS:
        raise InvalidPrograms("not a list of so many programs")
    if not all([isinstance(program, Program) for program in programs]):
        raise InvalidPrograms("not a list of Programs")


def program_of(parts):
    """The program that consists of parts, whatever their numbers."""
    program = Program("")
    program.parts = parts
    return program


def placed(parts):
    """The program of parts whose addresses may be less than 0, which is an error."""
    for first, last in scans_of(parts):
        if first < 0 or last < 0:
            raise InvalidNumber("an address would be less than 0")
    return program_of(parts)


def spread_scan(scan, width):
    """The scan of the addresses that replace those of a scan, in its direction, upwards for one address."""
    first, last = scan
    beyond = width - 1
    if first <= last:
        return (width * first, width * last + beyond)
    return (width * first + beyond, width * last)
