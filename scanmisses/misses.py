"""What misses a cache."""

from scanmisses.caches import index_of_miss, missed_of
from scanmisses.checks import check_from, check_index, check_size
from scanmisses.programs import check_program, program_of
from scanmisses.summaries import profile_of
from scanmisses.walks import cut


def missed(program, size):
    """A program with just the accesses that miss a cache of a size, in their order."""
    check_program(program)
    check_size(size)
    return program_of(missed_of(program.parts, [], size))


def count_misses(program, size, many):
    """How many of the first accesses, so many, miss, of all if there are fewer."""
    check_program(program)
    check_size(size)
    check_from(many, 0)
    head, _ = cut(program.parts, many)
    return profile_of(program_of(head))(size)


def nth_miss(program, size, index):
    """The index of the access that is the miss with an index."""
    check_index(index, profile_of(program)(size))
    return index_of_miss(program.parts, [], size, index)
