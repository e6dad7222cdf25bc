"""Pieces of profiles, (low, high, times): each distance from low to high occurs times times.

Nothing is checked here. Pieces may overlap, and their times may be less than 1, where only flattened reads them.
"""


def flattened(pieces):
    """The fewest pieces, ascending, with the sums of the times of all pieces."""
    changes = {}
    for low, high, times in pieces:
        changes[low] = changes.get(low, 0) + times
        changes[high + 1] = changes.get(high + 1, 0) - times
    # Where nothing changes, a piece goes on.
    turns = sorted([distance for distance in changes if changes[distance] != 0])
    rows = []
    now = 0
    for start, following in zip(turns, turns[1:]):
        now = now + changes[start]
        if now != 0:
            rows.append((start, following - 1, now))
    return rows


def multiplied(pieces, times):
    """The pieces with their times multiplied."""
    return [(low, high, many * times) for low, high, many in pieces]


def count_beyond(pieces, size):
    """How many accesses have distances greater than a size."""
    return sum([(high - max(low - 1, size)) * times for low, high, times in pieces if high > size])


def times_at(pieces, distance):
    """How often a distance occurs."""
    return sum([times for low, high, times in pieces if low <= distance <= high])


def corners_of(pieces):
    """The distances, ascending, that occur unlike times from the next one, for the fewest pieces."""
    found = []
    for low, high, _ in pieces:
        # The end of the piece before it may be this corner already.
        if low > 1 and (not found or found[-1] < low - 1):
            found.append(low - 1)
        found.append(high)
    return found


def least_covering(pieces, many):
    """The least size beyond which there are at most so many accesses, for ascending pieces."""
    left = many
    for low, high, times in reversed(pieces):
        whole = (high - low + 1) * times
        if whole > left:
            return high - left // times
        left = left - whole
    return 0
