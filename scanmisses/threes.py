"""The three things that tell of a program among others: a tuple (firsts, lasts, pieces).

The pieces may overlap. The cold accesses are the addresses of the firsts.
"""

from scanmisses.parts import is_repeat
from scanmisses.pieces import multiplied
from scanmisses.scans import put_ahead
from scanmisses.straight import straight_pieces


def three_behind(one, two):
    """The three things of one program and another one behind it."""
    pieces = one[2] + two[2] + straight_pieces(one[1], two[0])
    return (put_ahead(one[0], two[0]), put_ahead(two[1], one[1]), pieces)


def three_times(three, times):
    """The three things of a program so many times."""
    if times == 0:
        return ([], [], [])
    firsts, lasts, pieces = three
    again = straight_pieces(lasts, firsts)
    return (firsts, lasts, multiplied(pieces, times) + multiplied(again, times - 1))


def three_of(parts):
    """The three things of the program that consists of parts."""
    three = ([], [], [])
    for part in parts:
        if is_repeat(part):
            following = three_times(three_of(part[1]), part[0])
        else:
            following = ([part], [(part[1], part[0])], [])
        three = three_behind(three, following)
    return three
