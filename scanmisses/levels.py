"""Caches behind one another, and caches that together keep the addresses that were read last."""

from scanmisses.caches import missed_of
from scanmisses.checks import check_sizes
from scanmisses.parts import count_accesses
from scanmisses.programs import check_program, program_of
from scanmisses.summaries import profile_of


def level_misses(program, sizes):
    """The numbers of misses of caches of which each one reads what misses the one before it."""
    return [count_accesses(parts) for parts in levels_of(program, sizes)]


def level_profile(program, sizes):
    """The profile of what misses all of them."""
    return profile_of(program_of(levels_of(program, sizes)[-1]))


def stacked_hits(program, sizes):
    """The numbers of hits of caches that keep the latest addresses, each one those behind the one before it."""
    check_program(program)
    check_sizes(sizes)
    profile = profile_of(program)
    found = []
    whole = 0
    for size in sizes:
        found.append(profile(whole) - profile(whole + size))
        whole = whole + size
    return found


def levels_of(program, sizes):
    """For each cache the parts that miss it and all before it."""
    check_program(program)
    check_sizes(sizes)
    rows = []
    parts = program.parts
    for size in sizes:
        parts = missed_of(parts, [], size)
        rows.append(parts)
    return rows
