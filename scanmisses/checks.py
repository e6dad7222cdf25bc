"""Checks of arguments: each one raises the error that the document names, or returns None."""

from scanmisses.errors import InvalidAddress, InvalidIndex, InvalidInterval, InvalidList, InvalidNumber
from scanmisses.errors import InvalidOperation, InvalidPoints, InvalidProfile, InvalidScan, InvalidScans
from scanmisses.errors import InvalidSize, InvalidSizes

GREATEST = 10 ** 30
MOST_SIZES = 3
MOST_BODIES = 6
MOST_POINTS = 8
OPERATIONS = {"play": 2, "resize": 2, "drop": 3}


def is_integer(value):
    """Whether a value is an integer; True and False are none."""
    return isinstance(value, int) and not isinstance(value, bool)


def is_from_zero(value):
    """Whether a value is an integer from 0 on."""
    return is_integer(value) and value >= 0


def is_scan(value):
    """Whether a value is a scan."""
    return isinstance(value, tuple) and len(value) == 2 and is_from_zero(value[0]) and is_from_zero(value[1])


def is_list(value):
    """Whether a value is a list of scans in which no address occurs twice."""
    if not isinstance(value, list):
        return False
    for scan in value:
        if not is_scan(scan):
            return False
    spans = sorted([(min(first, last), max(first, last)) for first, last in value])
    return all([one[1] < two[0] for one, two in zip(spans, spans[1:])])


def is_piece(value):
    """Whether a value is a piece of a profile, (low, high, times)."""
    if not isinstance(value, tuple) or len(value) != 3 or not all([is_integer(number) for number in value]):
        return False
    low, high, times = value
    return 1 <= low <= high and times >= 1


def are_pieces(value):
    """Whether a value is a list of pieces of a profile, each one beyond the one before it."""
    if not isinstance(value, list) or not all([is_piece(piece) for piece in value]):
        return False
    return all([one[1] < two[0] for one, two in zip(value, value[1:])])


def is_point(distance, times):
    """Whether a distance may occur so many times."""
    return is_integer(distance) and distance >= 1 and is_integer(times) and 1 <= times <= GREATEST


def is_operation(value):
    """Whether a value is a tuple of the name of a call and of as many items as it has arguments."""
    if not isinstance(value, tuple) or len(value) == 0:
        return False
    word = value[0]
    return isinstance(word, str) and word in OPERATIONS and len(value) == OPERATIONS[word]


def check_list(scans):
    if not is_list(scans):
        raise InvalidList("not a list of scans in which no address occurs twice")


def check_scan(scan):
    if not is_scan(scan):
        raise InvalidScan("not a tuple of two integers from 0 on")


def check_address(address):
    if not is_from_zero(address):
        raise InvalidAddress("not an integer from 0 on")


def check_index(index, count):
    """Checks an index of one of so many things."""
    if not is_from_zero(index) or index >= count:
        raise InvalidIndex("not an integer from 0 on and less than the number of things")


def check_size(size):
    if not is_from_zero(size):
        raise InvalidSize("not an integer from 0 on")


def check_sizes(sizes):
    """Checks the sizes of caches behind one another."""
    if not isinstance(sizes, list) or not 1 <= len(sizes) <= MOST_SIZES:
        raise InvalidSizes("not a list of so many sizes")
    if not all([is_from_zero(size) for size in sizes]):
        raise InvalidSizes("not a list of integers from 0 on")


def check_bodies(bodies):
    """Checks the scans of the body of a loop."""
    if not isinstance(bodies, list) or not 1 <= len(bodies) <= MOST_BODIES:
        raise InvalidScans("not a list of so many scans")
    if not all([is_scan(scan) for scan in bodies]):
        raise InvalidScans("not a list of tuples of two integers from 0 on")


def check_points(points):
    """Checks distances and how often they occur."""
    if not isinstance(points, dict) or len(points) > MOST_POINTS:
        raise InvalidPoints("not a dict of so many items")
    if not all([is_point(distance, times) for distance, times in points.items()]):
        raise InvalidPoints("not a dict from integers from 1 on to numbers of times")


def check_operations(operations):
    """Checks the calls of a preview, but not their arguments."""
    if not all([is_operation(operation) for operation in operations]):
        raise InvalidOperation("not a tuple of the name of a call and its arguments")


def check_from(number, least):
    """Checks a number that is an integer from least on."""
    if not is_integer(number) or number < least:
        raise InvalidNumber("not an integer from the least one on")


def check_integer(number):
    if not is_integer(number):
        raise InvalidNumber("not an integer")


def check_between(number, least, greatest):
    """Checks a number that is an integer from least to greatest."""
    if not is_integer(number) or not least <= number <= greatest:
        raise InvalidNumber("not an integer within its bounds")


def check_interval(low, high):
    if not is_from_zero(low) or not is_from_zero(high) or low > high:
        raise InvalidInterval("not two integers with 0 <= low <= high")


def check_distances(cold, pieces):
    """Checks what a profile is made of."""
    if not is_from_zero(cold):
        raise InvalidProfile("the number of cold accesses is not an integer from 0 on")
    if not are_pieces(pieces):
        raise InvalidProfile("not a list of ascending tuples (low, high, times)")
