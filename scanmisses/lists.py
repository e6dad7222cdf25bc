"""Lists of scans in which no address occurs twice; all returned lists are tidy."""

from scanmisses.checks import check_address, check_from, check_index, check_interval, check_list, check_scan
from scanmisses.scans import address_in, all_without, count_all, first_of, joined, place_in, put_ahead, scan_length


def tidy(scans):
    """The list of the fewest scans with the same addresses in the same order."""
    check_list(scans)
    return joined(scans)


def count_addresses(scans):
    """The number of the addresses."""
    check_list(scans)
    return count_all(scans)


def turned(scans):
    """The addresses in the opposite order."""
    check_list(scans)
    return joined([(last, first) for first, last in reversed(scans)])


def place_of(scans, address):
    """The place of an address, or None if it does not occur."""
    check_list(scans)
    check_address(address)
    ahead = 0
    for scan in scans:
        place = place_in(scan, address)
        if place is not None:
            return ahead + place
        ahead = ahead + scan_length(scan)
    return None


def nth_address(scans, index):
    """The address at a place."""
    check_index(index, count_addresses(scans))
    left = index
    at = 0
    while left >= scan_length(scans[at]):
        left = left - scan_length(scans[at])
        at = at + 1
    return address_in(scans[at], left)


def first_part(scans, many):
    """The first addresses, so many, or all of them if there are fewer."""
    check_list(scans)
    check_from(many, 0)
    return joined(first_of(scans, many))


def on_top(scans, scan):
    """The addresses of a scan, then all others of the list."""
    check_list(scans)
    check_scan(scan)
    return put_ahead([scan], scans)


def without(scans, low, high):
    """The addresses that are not from low to high."""
    check_list(scans)
    check_interval(low, high)
    return joined(all_without(scans, low, high))
