"""The same things as the package does, address by address, and values of wrong kinds."""

import itertools
import random

BIG = 10 ** 30
FAR = 10 ** 99

# No list, no scan, no program, no integer, no text.
ODD = [None, True, False, "", "0", "0-3", b"0", (), [], {}, (0,), (0, 1, 2), [0], [0, 1], [[0, 1]], [(0,)],
       [(0, 1, 2)], [(0, True)], [(False, 1)], [(0, -1)], [(-1, 0)], [("0", "1")], [(0, None)], [None], [1],
       ((0, 1),), {0: 1}, object, len]

# No list of scans in which no address occurs twice.
NO_LISTS = [value for value in ODD if value != []] + [
    [(0, 5), (5, 9)], [(0, 0), (0, 0)], [(9, 0), (3, 3)], [(3, 3), (0, 9)], [(0, 9), (20, 30), (9, 9)],
    [(0, FAR), (FAR, 2 * FAR)], [(FAR, 0), (2 * FAR, FAR)], [(0, 5), [6, 7]], [(0, 5), (6, 7), None],
    [(5, 9), (0, 4), (4, 4)],
]

# No integer from 0 on.
NO_NUMBERS = [None, True, False, "", "0", b"1", -1, -FAR, (), (0,), [], [0], {}, {0: 1}, object, len]

# Texts with a repeat at each of their levels, up to five.
LEVELS = [
    "( 0-3 )N", "( 0-3 3-0 )N 7", "8 ( 0-2 1 )N", "( ( 0-2 )N 1 3-1 )N", "0 ( 1 ( 2-4 0 )N 3-1 )N 2 4",
    "( 5 ( ( 0-1 )N 2 )N 1-3 )N", "( ( ( ( ( 0 1 )N 2 )N 1 )N 3 )N 0 2 )N 9",
    "( 0 ( 1 ( 2 ( 0 ( 1 3 )N )N 0 )N )N 2 )N",
]


def addresses_of(scans, width=1):
    """The addresses that scans read, one by one, so many as width for each of them."""
    found = []
    for first, last in scans:
        step = 1 if first <= last else -1
        for address in range(first, last + step, step):
            found.extend(range(width * address, width * address + width)[::step])
    return found


def tidy_of(addresses):
    """The tidy list of different addresses: two neighbours are in one scan exactly if they differ by 1."""
    scans = []
    for address in addresses:
        if scans and abs(scans[-1][1] - address) == 1:
            scans[-1] = (scans[-1][0], address)
        else:
            scans.append((address, address))
    return scans


def folded(text, scan, repeat):
    """The list that the words of a text make together.

    scan gives a list for the word of a scan, repeat one for the list of a body and the word behind it.
    """
    bodies = [[]]
    for word in text.split(" ") if text else []:
        if word == "(":
            bodies.append([])
        elif word[0] == ")":
            body = bodies.pop()
            bodies[-1].extend(repeat(body, word))
        else:
            bodies[-1].extend(scan(word))
    assert len(bodies) == 1
    return bodies[0]


def expanded(text, width=1):
    """The accesses of a program, one by one, from its text, so many as width for each of them."""
    def scan(word):
        ends = [int(number) for number in word.split("-")]
        return addresses_of([(ends[0], ends[-1])], width)
    return folded(text, scan, lambda body, word: body * int(word[1:]))


def small_lists(top=5):
    """Lists of up to so many addresses: the tidy ones, those of single addresses, and some between."""
    for many in range(top + 1):
        for chosen in itertools.permutations(range(top), many):
            whole = tidy_of(chosen)
            yield whole
            single = [(address, address) for address in chosen]
            if single != whole:
                yield single
                for cut in range(1, many):
                    yield tidy_of(chosen[:cut]) + tidy_of(chosen[cut:])


def firsts_in(accesses):
    """The tidy list of the addresses in the order of their first accesses."""
    return tidy_of(list(dict.fromkeys(accesses)))


def lasts_in(accesses):
    """The tidy list of the addresses in the order of their last accesses, the latest one first."""
    return firsts_in(accesses[::-1])


def last_in(accesses, index):
    """The index of the last access to the same address ahead of an access, or None."""
    for before in range(index - 1, -1, -1):
        if accesses[before] == accesses[index]:
            return before
    return None


def distances_in(accesses):
    """For each access its distance, or None if it is cold."""
    lasts = [last_in(accesses, index) for index in range(len(accesses))]
    return [None if last is None else len(set(accesses[last:index])) for index, last in enumerate(lasts)]


def pieces_of(distances):
    """The fewest pieces that tell how often each distance occurs; None is no distance."""
    distances = [distance for distance in distances if distance is not None]
    pieces = []
    for distance in sorted(set(distances)):
        times = distances.count(distance)
        if pieces and pieces[-1][1] == distance - 1 and pieces[-1][2] == times:
            pieces[-1] = (pieces[-1][0], distance, times)
        else:
            pieces.append((distance, distance, times))
    return pieces


def missed_in(accesses, size):
    """The indices of the accesses that miss a cache of a size that is played."""
    kept, found = [], []
    for index, address in enumerate(accesses):
        if address in kept:
            kept.remove(address)
        else:
            found.append(index)
        kept.insert(0, address)
        del kept[size:]
    return found


def misses_in(accesses, size):
    """How many accesses miss a cache of a size that is played."""
    return len(missed_in(accesses, size))


def depth_of(text):
    """How many brackets of a text are open at a time, at most."""
    depths = [0]
    for word in text.split(" "):
        depths.append(depths[-1] + (word == "(") - (word[:1] == ")"))
    return max(depths)


def random_text(rnd, top, most=4, depth=3):
    """The text of a small program with addresses up to top, with repeats within one another."""
    words = []
    for _ in range(rnd.randint(1, most)):
        if depth > 0 and rnd.random() < 0.35:
            words.append(f"( {random_text(rnd, top, 3, depth - 1)} ){rnd.randint(2, 3)}")
        else:
            first, last = rnd.randint(0, top), rnd.randint(0, top)
            words.append(str(first) if first == last else f"{first}-{last}")
    return " ".join(words)


def random_texts(seed, many, top=6, longest=120):
    """So many texts of small programs, the same ones for the same seed, with at most so many accesses."""
    rnd = random.Random(seed)
    found = []
    while len(found) < many:
        text = random_text(rnd, rnd.randint(1, top))
        if len(expanded(text)) <= longest:
            found.append(text)
    return found


def same_places(text, few, many):
    """Pairs of indices of like accesses, of a text with few and with many rounds at each level.

    The first two rounds and the last one are like the first two and the last one, the others like any one
    between, for which one in the middle is taken.
    """
    def pairs(words):
        found, at = [], [0, 0]
        while words:
            word = words.pop(0)
            if word == "(":
                inside, lengths = pairs(words)
                places = [(0, 0), (1, 1), (few // 2, many // 2), (few - 1, many - 1)]
                for one, two in places:
                    found.extend((at[0] + one * lengths[0] + a, at[1] + two * lengths[1] + b) for a, b in inside)
                at = [at[0] + few * lengths[0], at[1] + many * lengths[1]]
            elif word == ")N":
                break
            else:
                length = len(expanded(word))
                found.extend((at[0] + k, at[1] + k) for k in range(length))
                at = [at[0] + length, at[1] + length]
        return found, at
    return pairs(text.split(" "))[0]


def straight_on(numbers, levels, few, great):
    """A list of numbers for great times at each level, if each of them goes straight on from few times.

    numbers gives the list for a tuple of times.
    """
    total = None
    for chosen in itertools.product((few, few + 1), repeat=levels):
        weight = 1
        for times, many in zip(chosen, great):
            weight *= many - few if times > few else few + 1 - many
        row = [weight * number for number in numbers(chosen)]
        total = row if total is None else [one + two for one, two in zip(total, row)]
    return total
