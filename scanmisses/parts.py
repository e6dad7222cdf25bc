"""What programs consist of.

The parts of a program are a tuple. A part is a scan, (first, last), or a repeat, (times, body), whose body is
a tuple of parts.
"""

from scanmisses.scans import put_ahead, scan_length


def is_repeat(part):
    """Whether a part is a repeat, not a scan."""
    return isinstance(part[1], tuple)


def scans_of(parts):
    """The list of the scans as they are written."""
    scans = []
    for part in parts:
        if is_repeat(part):
            scans.extend(scans_of(part[1]))
        else:
            scans.append(part)
    return scans


def count_accesses(parts):
    """The number of accesses."""
    many = 0
    for part in parts:
        if is_repeat(part):
            many = many + part[0] * count_accesses(part[1])
        else:
            many = many + scan_length(part)
    return many


def lasts_of(parts):
    """The tidy list of the addresses in the order of their last accesses, the latest one first."""
    lasts = []
    for part in parts:
        # The last round of a repeat reads all of its addresses again.
        latest = lasts_of(part[1]) if is_repeat(part) else [(part[1], part[0])]
        lasts = put_ahead(latest, lasts)
    return lasts


def repeated(parts, times):
    """The parts so many times, as a repeat only where one is needed."""
    if times == 0:
        return ()
    if times == 1 or not parts:
        return parts
    return ((times, parts),)


def backwards(parts):
    """The parts with the same accesses in the opposite order."""
    rows = []
    for part in reversed(parts):
        if is_repeat(part):
            rows.append((part[0], backwards(part[1])))
        else:
            rows.append((part[1], part[0]))
    return tuple(rows)


def changed(parts, change):
    """The parts, where each scan is replaced by what change makes of it."""
    rows = []
    for part in parts:
        if is_repeat(part):
            rows.append((part[0], changed(part[1], change)))
        else:
            rows.append(change(part))
    return tuple(rows)
