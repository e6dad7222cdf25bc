"""Single scans, and sequences of scans whose addresses are all different; nothing is checked here."""


def scan_length(scan):
    """The number of addresses that a scan reads."""
    return abs(scan[1] - scan[0]) + 1


def address_in(scan, place):
    """The address at a place of a scan."""
    first, last = scan
    return first + place if first <= last else first - place


def place_in(scan, address):
    """The place of an address in a scan, or None if the scan does not read it."""
    first, last = scan
    if min(first, last) <= address <= max(first, last):
        return abs(address - first)
    return None


def scan_head(scan, many):
    """The scan of the first addresses of a scan, so many, from 1 on, or all of them if there are fewer."""
    return (scan[0], address_in(scan, min(many, scan_length(scan)) - 1))


def first_reaching(spans, address):
    """The index of the first one of ascending intervals that ends at an address or beyond it."""
    low, high = 0, len(spans)
    while low < high:
        middle = (low + high) // 2
        if spans[middle][1] < address:
            low = middle + 1
        else:
            high = middle
    return low


def scan_outside(scan, spans):
    """The scans of the addresses of a scan that are in none of ascending intervals (least, greatest)."""
    least, greatest = min(scan), max(scan)
    left = []
    start = least
    at = first_reaching(spans, least)
    while at < len(spans) and spans[at][0] <= greatest:
        if start < spans[at][0]:
            left.append((start, spans[at][0] - 1))
        start = spans[at][1] + 1
        at += 1
    if start <= greatest:
        left.append((start, greatest))
    if scan[0] <= scan[1]:
        return left
    return [(high, low) for low, high in reversed(left)]


def all_without(scans, low, high):
    """The scans of the addresses of scans that are not from low to high."""
    return others_of(scans, [(low, high)])


def others_of(scans, taken):
    """The scans of the addresses of scans that are not among the taken ones."""
    spans = sorted([(min(scan), max(scan)) for scan in taken])
    return [part for scan in scans for part in scan_outside(scan, spans)]


def first_of(scans, many):
    """The scans of the first addresses, so many, or all of them if there are fewer."""
    taken = []
    left = many
    for scan in scans:
        if left > 0:
            taken.append(scan_head(scan, left))
        left = left - scan_length(scan)
    return taken


def count_all(scans):
    """The number of the addresses."""
    return sum([scan_length(scan) for scan in scans])


def put_ahead(scans, others):
    """The tidy list of the addresses of scans, then those of others that are not among them."""
    return joined(scans + others_of(others, scans))


def joined(scans):
    """The tidy list of the addresses of scans."""
    rows = []
    for first, last in scans:
        # As no address occurs twice, a neighbour goes on in the same direction.
        if rows and abs(first - rows[-1][1]) == 1:
            rows[-1] = (rows[-1][0], last)
        else:
            rows.append((first, last))
    return rows
