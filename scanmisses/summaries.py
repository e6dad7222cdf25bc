"""Summaries: what tells of a program, whatever programs are performed ahead of it and behind it."""

from scanmisses.checks import GREATEST, check_between, check_list
from scanmisses.errors import InvalidSummary
from scanmisses.pieces import count_beyond, flattened
from scanmisses.profiles import Profile
from scanmisses.programs import check_program
from scanmisses.scans import count_all
from scanmisses.straight import straight_pieces
from scanmisses.threes import three_behind, three_of, three_times


class Summary:
    """The firsts, the lasts and the profile of a program; it never changes."""

    def __init__(self, firsts, lasts, profile):
        self._firsts = list(firsts)
        self._lasts = list(lasts)
        self.profile = profile

    @property
    def firsts(self):
        """The tidy list of the addresses in the order of their first accesses."""
        return list(self._firsts)

    @property
    def lasts(self):
        """The tidy list of the addresses in the order of their last accesses, the latest one first."""
        return list(self._lasts)

    def __add__(self, other):
        check_summary(other)
        return summary_from(three_behind(three_from(self), three_from(other)))

    def __mul__(self, times):
        check_between(times, 0, GREATEST)
        return summary_from(three_times(three_from(self), times))

    def __invert__(self):
        return Summary(self.lasts, self.firsts, self.profile)

    def __eq__(self, other):
        return isinstance(other, Summary) and three_from(self) == three_from(other)


def between(lasts, firsts):
    """The profile of the addresses of firsts, read behind a program with such lasts."""
    check_list(lasts)
    check_list(firsts)
    pieces = straight_pieces(lasts, firsts)
    return Profile(count_all(firsts) - count_beyond(pieces, 0), flattened(pieces))


def summary_of(program):
    """The summary of a program."""
    check_program(program)
    return summary_from(three_of(program.parts))


def profile_of(program):
    """The profile of a program."""
    return summary_of(program).profile


def check_summary(summary):
    """Checks that a value is a summary."""
    if not isinstance(summary, Summary):
        raise InvalidSummary("not a Summary")


def three_from(summary):
    """The three things of a summary, as threes.py tells."""
    return (summary.firsts, summary.lasts, summary.profile.pieces)


def summary_from(three):
    """The summary of three things, as threes.py tells."""
    firsts, lasts, pieces = three
    return Summary(firsts, lasts, Profile(count_all(firsts), flattened(pieces)))
