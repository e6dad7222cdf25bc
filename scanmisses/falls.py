"""Numbers that fall evenly: tuples (value, fall) of a number and of how much less it is after each step."""


def least_falls(falls, many):
    """Which of the numbers is the least one in so many steps, from step 0 on: the first one of several.

    A list of tuples (step, index): from this step on, up to that of the next tuple, it is the one with the index.
    """
    found = []
    step = 0
    while step < many:
        best = least_at(falls, step)
        found.append((step, best))
        step = min([overtaken_at(falls, best, index, step) for index in overtaking(falls, best)], default=many)
    return found


def least_at(falls, step):
    """The index of the least number after a step, the first one of several."""
    values = [value - fall * step for value, fall in falls]
    return values.index(min(values))


def overtaking(falls, best):
    """The indices of the numbers that fall faster than the best one."""
    return [index for index, (_, fall) in enumerate(falls) if fall > falls[best][1]]


def overtaken_at(falls, best, index, step):
    """The first step behind a step, in which the best one is the least, in which a faster one is ahead of it."""
    speed = falls[index][1] - falls[best][1]
    gap = falls[index][0] - falls[best][0] - speed * step
    # An earlier one needs only be equal.
    return step + (gap + speed - 1) // speed if index < best else step + gap // speed + 1
