"""Straight distances: those of the first accesses of a program that is performed behind another one.

They are worked out for whole intervals that a scan of the lasts of the one program and a scan of the firsts of the
other one have in common, as pieces of a profile.
"""


def placed_scans(scans):
    """For each scan a tuple (least, greatest, place, upwards); place is that of its first address in the list."""
    rows = []
    place = 0
    for first, last in scans:
        rows.append((min(first, last), max(first, last), place, first <= last))
        place = place + abs(last - first) + 1
    return rows


def start_of(row, low, high):
    """The place of that one of the addresses low and high of a scan which it reads first."""
    least, greatest, place, upwards = row
    return place + low - least if upwards else place + greatest - high


def shared_intervals(lasts, firsts):
    """The intervals that scans have in common, (place in lasts, place in firsts, length, in one direction)."""
    found = []
    left, right = sorted(placed_scans(lasts)), sorted(placed_scans(firsts))
    at = by = 0
    while at < len(left) and by < len(right):
        one, two = left[at], right[by]
        low, high = max(one[0], two[0]), min(one[1], two[1])
        if low <= high:
            found.append((start_of(one, low, high), start_of(two, low, high), high - low + 1, one[3] == two[3]))
        # The one that ends first has nothing in common with what follows.
        if one[1] <= two[1]:
            at += 1
        else:
            by += 1
    return found


def straight_rows(lasts, firsts):
    """The intervals that scans have in common, each a tuple (place in firsts, length, distance, growing).

    The distance is that of its first address in the firsts. Those of the others grow by 1 each, or are equal to it.
    """
    shared = shared_intervals(lasts, firsts)
    rows = []
    for in_lasts, in_firsts, length, one_direction in shared:
        # Another interval is as a whole ahead of this one or behind it.
        in_both = sum([row[2] for row in shared if row[0] < in_lasts and row[1] < in_firsts])
        distance = 1 + in_lasts + in_firsts - in_both
        # What is ahead in the one scan may be behind in the other: then all of the interval count for each one.
        rows.append((in_firsts, length, distance if one_direction else distance + length - 1, one_direction))
    return rows


def straight_pieces(lasts, firsts):
    """The pieces, which may overlap, of the distances of the addresses of both lists."""
    pieces = []
    for _, length, distance, growing in straight_rows(lasts, firsts):
        if growing:
            pieces.append((distance, distance + length - 1, 1))
        else:
            pieces.append((distance, distance, length))
    return pieces
