"""Parts of a cache for several programs, each of which uses its part alone."""

from scanmisses.checks import check_from, check_size
from scanmisses.programs import check_programs
from scanmisses.summaries import profile_of


def best_split(programs, size):
    """The fewest misses of all programs together, and the sizes of their parts, the least ones as tuples compare."""
    check_programs(programs)
    check_size(size)
    found = []
    for place, free, rows in splits_at_corners(programs):
        for sizes, misses in rows:
            left = size - sum(sizes)
            if left >= 0:
                found.append((misses + free(left), sizes[:place] + (left,) + sizes[place:]))
    return min(found)


def least_whole(programs, misses):
    """The least whole size with at most so many misses, None if there is none."""
    check_programs(programs)
    check_from(misses, 0)
    found = []
    for _, free, rows in splits_at_corners(programs):
        for sizes, many in rows:
            least = free.least_size(misses - many) if many <= misses else None
            if least is not None:
                found.append(sum(sizes) + least)
    return min(found, default=None)


def splits_at_corners(programs):
    """For each program a tuple of its place, its profile, and the choices of corners for the others.

    In the best split that is least as a tuple, and so also in the least whole size, at most one part ends between
    corners of its profile. Otherwise two of them could shift space in both directions, while all misses change evenly:
    in one of the directions they would become fewer, or else the tuple would become less in one of them.
    """
    profiles = [profile_of(program) for program in programs]
    rows = []
    for place, free in enumerate(profiles):
        rows.append((place, free, corner_choices(profiles[:place] + profiles[place + 1:])))
    return rows


def corner_choices(profiles):
    """The tuples (sizes, misses) of each choice of the size 0 or a corner for each of some profiles."""
    rows = [((), 0)]
    for profile in profiles:
        points = [(size, profile(size)) for size in [0] + profile.corners]
        rows = [(sizes + (size,), misses + many) for sizes, misses in rows for size, many in points]
    return rows
