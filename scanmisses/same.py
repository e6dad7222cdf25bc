"""Whether programs have equally many misses everywhere, and where they part."""

from scanmisses.lists import place_of
from scanmisses.pieces import flattened, multiplied
from scanmisses.programs import program_of
from scanmisses.summaries import summary_of


def same_everywhere(program, other):
    """Whether two programs have equally many misses, whatever programs are performed ahead of and behind both."""
    return summary_of(program) == summary_of(other)


def parting(program, other):
    """None if they have; otherwise programs ahead of and behind both, and a size, with unlike numbers of misses."""
    one, two = summary_of(program), summary_of(other)
    empty = program_of(())
    if one == two:
        return None
    if one.profile != two.profile:
        return (empty, empty, parting_size(one.profile, two.profile))
    # An address that is read ahead or behind once has its place as its distance.
    if one.firsts != two.firsts:
        address, size = parting_address(one.firsts, two.firsts)
        return (program_of(((address, address),)), empty, size)
    address, size = parting_address(one.lasts, two.lasts)
    return (empty, program_of(((address, address),)), size)


def parting_size(one, two):
    """A size for which two unlike profiles have unlike numbers of misses."""
    if one.cold != two.cold:
        return max([0] + one.corners + two.corners)
    apart = flattened(one.pieces + multiplied(two.pieces, -1))
    # Beyond the last of these pieces both have equally many accesses.
    return apart[-1][1] - 1


def parting_address(one, two):
    """An address with unlike places in two unlike tidy lists, and a size that only reaches the lesser place."""
    # If the ends of all scans have like places, so has all that is between them.
    for scan in one + two:
        for address in scan:
            places = [place_of(scans, address) for scans in (one, two)]
            if places[0] != places[1]:
                return address, min([place for place in places if place is not None]) + 1
    return None
