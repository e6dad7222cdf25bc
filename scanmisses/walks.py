"""Walks through the accesses of parts, by whole rounds and scans; what is asked for must be there."""

from scanmisses.parts import count_accesses, is_repeat, repeated
from scanmisses.scans import address_in, place_in, scan_head, scan_length


def read_all(parts):
    """The list of all accesses."""
    found = []
    for part in parts:
        if is_repeat(part):
            found.extend(read_all(part[1]) * part[0])
        else:
            found.extend([address_in(part, place) for place in range(scan_length(part))])
    return found


def cut(parts, many):
    """A tuple of the parts with the first accesses, so many, and those with the others."""
    left = many
    for place, part in enumerate(parts):
        length = count_accesses((part,))
        if left < length:
            head, tail = cut_repeat(part, left) if is_repeat(part) else cut_scan(part, left)
            return (parts[:place] + head, tail + parts[place + 1:])
        left = left - length
    return (parts, ())


def cut_scan(scan, many):
    """The same for one scan with more accesses."""
    if many == 0:
        return ((), (scan,))
    return ((scan_head(scan, many),), ((address_in(scan, many), scan[1]),))


def cut_repeat(part, many):
    """The same for one repeat with more accesses."""
    times, body = part
    rounds, rest = divmod(many, count_accesses(body))
    if rest == 0:
        return (repeated(body, rounds), repeated(body, times - rounds))
    head, tail = cut(body, rest)
    return (repeated(body, rounds) + head, tail + repeated(body, times - rounds - 1))


def access_at(parts, index):
    """The address of the access with an index."""
    left = index
    for part in parts:
        length = count_accesses((part,))
        if left < length:
            return access_at(part[1], left % count_accesses(part[1])) if is_repeat(part) else address_in(part, left)
        left = left - length
    return None


def count_of(parts, address):
    """How often an address is read."""
    many = 0
    for part in parts:
        if is_repeat(part):
            many = many + part[0] * count_of(part[1], address)
        elif place_in(part, address) is not None:
            many = many + 1
    return many


def index_of_read(parts, address, number):
    """The index of the access that reads an address for the time with a number, counted from 0."""
    ahead = 0
    left = number
    for part in parts:
        many = count_of((part,), address)
        if left < many:
            return ahead + index_in_part(part, address, left)
        left = left - many
        ahead = ahead + count_accesses((part,))
    return None


def index_in_part(part, address, number):
    """The same for one part."""
    if not is_repeat(part):
        return place_in(part, address)
    body = part[1]
    rounds, rest = divmod(number, count_of(body, address))
    return rounds * count_accesses(body) + index_of_read(body, address, rest)
