"""Programs for given distances."""

from scanmisses.checks import GREATEST, check_between, check_points
from scanmisses.parts import backwards, repeated
from scanmisses.programs import program_of
from scanmisses.scans import first_of, put_ahead


def program_for(cold, points):
    """A program with so many cold accesses and just these distances, None if there is none."""
    check_between(cold, 0, GREATEST)
    check_points(points)
    if cold < max(points, default=0):
        return None
    parts = ((0, cold - 1),) if cold > 0 else ()
    lasts = list(backwards(parts))
    # The greatest distance comes first: so the lesser ones find few scans among the addresses that they read.
    for distance in sorted(points, reverse=True):
        # Read again and again, from the one read longest ago on, each of these addresses has the distance.
        body = backwards(tuple(first_of(lasts, distance)))
        rounds, left = divmod(points[distance], distance)
        rest = tuple(first_of(body, left))
        parts = parts + repeated(body, rounds) + rest
        lasts = put_ahead(list(backwards(rest)), lasts)
    return program_of(parts)
