"""Profiles: how many accesses are cold, and how many have each distance."""

from scanmisses.checks import GREATEST, check_between, check_distances, check_from, check_size
from scanmisses.errors import InvalidProfile
from scanmisses.pieces import corners_of, count_beyond, flattened, least_covering, multiplied, times_at


class Profile:
    """A profile; it never changes. Called with a size, it tells the number of misses."""

    def __init__(self, cold, pieces):
        check_distances(cold, pieces)
        self.cold = cold
        self._pieces = flattened(pieces)

    @property
    def pieces(self):
        """The list of tuples (low, high, times), as few as possible."""
        return list(self._pieces)

    @property
    def accesses(self):
        """The number of all accesses."""
        return self.cold + count_beyond(self._pieces, 0)

    @property
    def corners(self):
        """The ascending list of the distances that occur unlike times from the next one."""
        return corners_of(self._pieces)

    def __call__(self, size):
        check_size(size)
        return self.cold + count_beyond(self._pieces, size)

    def at(self, distance):
        """How often a distance occurs."""
        check_from(distance, 1)
        return times_at(self._pieces, distance)

    def least_size(self, misses):
        """The least size with at most so many misses, None if there is none."""
        check_from(misses, 0)
        if misses < self.cold:
            return None
        return least_covering(self._pieces, misses - self.cold)

    def __add__(self, other):
        check_profile(other)
        return Profile(self.cold + other.cold, flattened(self.pieces + other.pieces))

    def __mul__(self, times):
        check_between(times, 0, GREATEST)
        return Profile(self.cold * times, flattened(multiplied(self._pieces, times)))

    def __eq__(self, other):
        return isinstance(other, Profile) and self.cold == other.cold and self.pieces == other.pieces


def check_profile(profile):
    """Checks that a value is a profile."""
    if not isinstance(profile, Profile):
        raise InvalidProfile("not a Profile")
