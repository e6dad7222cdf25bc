"""Programs that are performed again and again, and loops whose scans may be turned."""

from scanmisses.checks import check_bodies, check_size
from scanmisses.falls import least_falls
from scanmisses.pieces import corners_of, count_beyond, flattened, times_at
from scanmisses.profiles import Profile
from scanmisses.programs import check_program
from scanmisses.scans import count_all
from scanmisses.straight import straight_pieces
from scanmisses.threes import three_of


def round_profile(program):
    """The profile of one round, from the second one on, if a program is performed again and again."""
    check_program(program)
    return Profile(0, round_pieces(program.parts))


def round_floor(program, size):
    """How many accesses of each round miss at least, whichever addresses a cache of a size keeps."""
    check_program(program)
    check_size(size)
    firsts, _, _ = three_of(program.parts)
    return max(0, count_all(firsts) - size)


def best_directions(bodies, size):
    """Whether each scan of the body of a loop is turned, for the fewest misses in a round."""
    check_bodies(bodies)
    check_size(size)
    turns = choices(len(bodies))
    misses = [count_beyond(round_pieces(turned_body(bodies, choice)), size) for choice in turns]
    return list(turns[misses.index(min(misses))])


def direction_changes(bodies):
    """The tuples (size, booleans) of the sizes, ascending from 0 on, from which on other directions are the best."""
    check_bodies(bodies)
    turns = choices(len(bodies))
    rounds = [round_pieces(turned_body(bodies, choice)) for choice in turns]
    # From a corner of any of them to the next one the misses of each of them fall evenly.
    starts = sorted(set([0] + [corner for pieces in rounds for corner in corners_of(pieces)]))
    changes = []
    for start, following in zip(starts, starts[1:] + [starts[-1] + 1]):
        falls = [(count_beyond(pieces, start), times_at(pieces, start + 1)) for pieces in rounds]
        for step, index in least_falls(falls, following - start):
            if not changes or changes[-1][1] != list(turns[index]):
                changes.append((start + step, list(turns[index])))
    return changes


def round_pieces(parts):
    """The fewest pieces of a round, from the second one on."""
    firsts, lasts, pieces = three_of(parts)
    return flattened(pieces + straight_pieces(lasts, firsts))


def choices(many):
    """The tuples of so many booleans, False ahead of True."""
    rows = [()]
    for _ in range(many):
        rows = [row + (turn,) for row in rows for turn in (False, True)]
    return rows


def turned_body(bodies, turns):
    """The parts of the scans, with some of them turned."""
    return tuple([(last, first) if turn else (first, last) for (first, last), turn in zip(bodies, turns)])
