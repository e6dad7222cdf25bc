"""Single accesses of programs."""

from scanmisses.checks import check_address, check_between, check_index
from scanmisses.errors import TooLarge
from scanmisses.lists import place_of
from scanmisses.parts import lasts_of
from scanmisses.programs import check_program, program_of
from scanmisses.walks import access_at, count_of, cut, index_of_read, read_all

MOST_WRITTEN = 10000


def written(program):
    """The list of the accesses."""
    check_program(program)
    if program.accesses > MOST_WRITTEN:
        raise TooLarge(MOST_WRITTEN)
    return read_all(program.parts)


def parted(program, many):
    """A program with the first accesses, so many, and one with the others."""
    check_program(program)
    check_between(many, 0, program.accesses)
    head, tail = cut(program.parts, many)
    return (program_of(head), program_of(tail))


def address_at(program, index):
    """The address of an access."""
    check_program(program)
    check_index(index, program.accesses)
    return access_at(program.parts, index)


def last_before(program, index):
    """The index of the last access to the same address ahead of an access, or None."""
    address = address_at(program, index)
    many = count_of(cut(program.parts, index)[0], address)
    return None if many == 0 else index_of_read(program.parts, address, many - 1)


def distance_at(program, index):
    """The distance of an access, or None."""
    address = address_at(program, index)
    # In the lasts of all accesses ahead of it there are just those addresses ahead that were read since.
    place = place_of(lasts_of(cut(program.parts, index)[0]), address)
    return None if place is None else place + 1


def count_reads(program, address):
    """How often an address is read."""
    check_program(program)
    check_address(address)
    return count_of(program.parts, address)


def nth_read(program, address, index):
    """The index of the access that reads an address for the time with an index."""
    check_index(index, count_reads(program, address))
    return index_of_read(program.parts, address, index)
