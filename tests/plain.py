"""The same things as the package does, address by address, and values of wrong kinds."""

import itertools
import random

BIG = 10 ** 30
FAR = 10 ** 99

# No list, no scan, no program, no integer, no text.
ODD = [None, True, False, "", "0", "0-3", b"0", (), [], {}, (0,), (0, 1, 2), [0], [0, 1], [[0, 1]], [(0,)],
       [(0, 1, 2)], [(0, True)], [(False, 1)], [(0, -1)], [(-1, 0)], [("0", "1")], [(0, None)], [None], [1],
       ((0, 1),), {0: 1}, object, len]

# No list of scans in which no address occurs twice.
NO_LISTS = [value for value in ODD if value != []] + [
    [(0, 5), (5, 9)], [(0, 0), (0, 0)], [(9, 0), (3, 3)], [(3, 3), (0, 9)], [(0, 9), (20, 30), (9, 9)],
    [(0, FAR), (FAR, 2 * FAR)], [(FAR, 0), (2 * FAR, FAR)], [(0, 5), [6, 7]], [(0, 5), (6, 7), None],
    [(5, 9), (0, 4), (4, 4)],
]

# No integer from 0 on.
NO_NUMBERS = [None, True, False, "", "0", b"1", -1, -FAR, (), (0,), [], [0], {}, {0: 1}, object, len]


def addresses_of(scans, width=1):
    """The addresses that scans read, one by one, so many as width for each of them."""
    found = []
    for first, last in scans:
        step = 1 if first <= last else -1
        for address in range(first, last + step, step):
            found.extend(range(width * address, width * address + width)[::step])
    return found


def tidy_of(addresses):
    """The tidy list of different addresses: two neighbours are in one scan exactly if they differ by 1."""
    scans = []
    for address in addresses:
        if scans and abs(scans[-1][1] - address) == 1:
            scans[-1] = (scans[-1][0], address)
        else:
            scans.append((address, address))
    return scans


def expanded(text, width=1):
    """The accesses of a program, one by one, from its text, so many as width for each of them."""
    bodies = [[]]
    for word in text.split(" ") if text else []:
        if word == "(":
            bodies.append([])
        elif word[0] == ")":
            body = bodies.pop()
            bodies[-1].extend(body * int(word[1:]))
        else:
            ends = [int(number) for number in word.split("-")]
            bodies[-1].extend(addresses_of([(ends[0], ends[-1])], width))
    assert len(bodies) == 1
    return bodies[0]


def small_lists(top=5):
    """Lists of up to so many addresses: the tidy ones, those of single addresses, and some between."""
    for many in range(top + 1):
        for chosen in itertools.permutations(range(top), many):
            whole = tidy_of(chosen)
            yield whole
            single = [(address, address) for address in chosen]
            if single != whole:
                yield single
                for cut in range(1, many):
                    yield tidy_of(chosen[:cut]) + tidy_of(chosen[cut:])


def firsts_in(accesses):
    """The tidy list of the addresses in the order of their first accesses."""
    return tidy_of(list(dict.fromkeys(accesses)))


def lasts_in(accesses):
    """The tidy list of the addresses in the order of their last accesses, the latest one first."""
    return firsts_in(accesses[::-1])


def last_in(accesses, index):
    """The index of the last access to the same address ahead of an access, or None."""
    for before in range(index - 1, -1, -1):
        if accesses[before] == accesses[index]:
            return before
    return None


def distances_in(accesses):
    """For each access its distance, or None if it is cold."""
    lasts = [last_in(accesses, index) for index in range(len(accesses))]
    return [None if last is None else len(set(accesses[last:index])) for index, last in enumerate(lasts)]


def pieces_of(distances):
    """The fewest pieces that tell how often each distance occurs; None is no distance."""
    distances = [distance for distance in distances if distance is not None]
    pieces = []
    for distance in sorted(set(distances)):
        times = distances.count(distance)
        if pieces and pieces[-1][1] == distance - 1 and pieces[-1][2] == times:
            pieces[-1] = (pieces[-1][0], distance, times)
        else:
            pieces.append((distance, distance, times))
    return pieces


def misses_in(accesses, size):
    """How many accesses miss a cache of a size that is played."""
    kept, misses = [], 0
    for address in accesses:
        if address in kept:
            kept.remove(address)
        else:
            misses += 1
        kept.insert(0, address)
        del kept[size:]
    return misses


def depth_of(text):
    """How many brackets of a text are open at a time, at most."""
    depths = [0]
    for word in text.split(" "):
        depths.append(depths[-1] + (word == "(") - (word[:1] == ")"))
    return max(depths)


def random_text(rnd, top, most=4, depth=3):
    """The text of a small program with addresses up to top, with repeats within one another."""
    words = []
    for _ in range(rnd.randint(1, most)):
        if depth > 0 and rnd.random() < 0.35:
            words.append(f"( {random_text(rnd, top, 3, depth - 1)} ){rnd.randint(2, 3)}")
        else:
            first, last = rnd.randint(0, top), rnd.randint(0, top)
            words.append(str(first) if first == last else f"{first}-{last}")
    return " ".join(words)


def random_texts(seed, many, top=6, longest=120):
    """So many texts of small programs, the same ones for the same seed, with at most so many accesses."""
    rnd = random.Random(seed)
    found = []
    while len(found) < many:
        text = random_text(rnd, rnd.randint(1, top))
        if len(expanded(text)) <= longest:
            found.append(text)
    return found
