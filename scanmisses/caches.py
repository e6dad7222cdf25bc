"""What a cache of some size keeps of parts that are read, and which of their accesses miss it.

What it keeps is a tidy list, the latest address first.
"""

from scanmisses.parts import count_accesses, is_repeat, lasts_of, repeated
from scanmisses.pieces import count_beyond
from scanmisses.scans import address_in, count_all, first_of, place_in, put_ahead, scan_length
from scanmisses.straight import straight_pieces, straight_rows
from scanmisses.walks import access_at


def kept_behind(kept, parts, size):
    """What is kept behind parts, by a cache that kept something ahead of them."""
    return first_of(put_ahead(lasts_of(parts), kept), size)


def misses_behind(kept, three, size):
    """How many accesses of a program, told by its three things, miss a cache that kept something ahead of it."""
    firsts, _, pieces = three
    again = straight_pieces(kept, firsts)
    not_kept = count_all(firsts) - count_beyond(again, 0)
    return not_kept + count_beyond(again, size) + count_beyond(pieces, size)


def missed_of(parts, kept, size):
    """The parts with just the accesses that miss a cache that kept something ahead of them."""
    found = ()
    now = kept
    for part in parts:
        if is_repeat(part):
            found = found + missed_repeat(part, now, size)
        else:
            found = found + missed_scan(part, now, size)
        now = kept_behind(now, (part,), size)
    return found


def missed_repeat(part, kept, size):
    """The same for a repeat."""
    times, body = part
    once = missed_of(body, kept, size)
    again = missed_again(body, size)
    # As one repeat, so that caches behind this one have less to read.
    if once == again:
        return repeated(again, times)
    return once + repeated(again, times - 1)


def missed_again(body, size):
    """The parts with just the accesses of each round from the second one on that miss."""
    return missed_of(body, kept_behind([], body, size), size)


def missed_scan(scan, kept, size):
    """The scans, a tuple, of the addresses of a scan that miss."""
    found = []
    place = 0
    for start, many in hits_of(scan, kept, size) + [(scan_length(scan), 0)]:
        if place < start:
            found.append((address_in(scan, place), address_in(scan, start - 1)))
        place = start + many
    return tuple(found)


def hits_of(scan, kept, size):
    """The places of a scan that hit, ascending, as tuples (first place, how many)."""
    found = []
    for place, length, distance, growing in sorted(straight_rows(kept, [scan])):
        if distance <= size:
            found.append((place, min(length, size - distance + 1) if growing else length))
    return found


def index_of_miss(parts, kept, size, number):
    """The index of the access that is the miss with a number, counted from 0; there must be one."""
    ahead = 0
    left = number
    now = kept
    for part in parts:
        many = count_accesses(missed_of((part,), now, size))
        if left < many:
            return ahead + index_of_miss_in(part, now, size, left)
        left = left - many
        ahead = ahead + count_accesses((part,))
        now = kept_behind(now, (part,), size)
    return None


def index_of_miss_in(part, kept, size, number):
    """The same for one part."""
    if not is_repeat(part):
        return place_in(part, access_at(missed_scan(part, kept, size), number))
    body = part[1]
    once = count_accesses(missed_of(body, kept, size))
    if number < once:
        return index_of_miss(body, kept, size, number)
    rounds, rest = divmod(number - once, count_accesses(missed_again(body, size)))
    return (rounds + 1) * count_accesses(body) + index_of_miss(body, kept_behind([], body, size), size, rest)
