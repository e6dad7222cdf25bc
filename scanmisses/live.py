"""What a live cache is like: a tuple (size, kept, accesses, misses). kept is a tidy list, the latest address first.

A call is told as a tuple of its name and its arguments. It makes a new tuple; the old one stays as it is.
"""

from scanmisses.caches import misses_behind
from scanmisses.checks import check_interval, check_size
from scanmisses.parts import count_accesses
from scanmisses.programs import check_program
from scanmisses.scans import all_without, first_of, joined, put_ahead
from scanmisses.threes import three_of


def state_behind(state, operation):
    """What the cache is like behind a call."""
    if operation[0] == "play":
        return played(state, operation[1])
    if operation[0] == "resize":
        return resized(state, operation[1])
    return dropped(state, operation[1], operation[2])


def played(state, program):
    """The same behind a program."""
    check_program(program)
    size, kept, accesses, misses = state
    three = three_of(program.parts)
    now = first_of(put_ahead(three[1], kept), size)
    more = misses_behind(kept, three, size)
    return (size, now, accesses + count_accesses(program.parts), misses + more)


def resized(state, size):
    """The same with another size."""
    check_size(size)
    _, kept, accesses, misses = state
    return (size, first_of(kept, size), accesses, misses)


def dropped(state, low, high):
    """The same without the addresses from low to high."""
    check_interval(low, high)
    size, kept, accesses, misses = state
    return (size, joined(all_without(kept, low, high)), accesses, misses)
