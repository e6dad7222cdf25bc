"""The same things as the package does, address by address, and values of wrong kinds."""

BIG = 10 ** 30

# No list, no scan, no program, no integer, no text.
ODD = [None, True, False, "", "0", "0-3", b"0", (), [], {}, (0,), (0, 1, 2), [0], [0, 1], [[0, 1]], [(0,)],
       [(0, 1, 2)], [(0, True)], [(False, 1)], [(0, -1)], [(-1, 0)], [("0", "1")], [(0, None)], [None], [1],
       ((0, 1),), {0: 1}, object, len]


def addresses_of(scans, width=1):
    """The addresses that scans read, one by one, so many as width for each of them."""
    found = []
    for first, last in scans:
        step = 1 if first <= last else -1
        for address in range(first, last + step, step):
            found.extend(range(width * address, width * address + width)[::step])
    return found


def tidy_of(addresses):
    """The tidy list of different addresses: two neighbours are in one scan exactly if they differ by 1."""
    scans = []
    for address in addresses:
        if scans and abs(scans[-1][1] - address) == 1:
            scans[-1] = (scans[-1][0], address)
        else:
            scans.append((address, address))
    return scans


def expanded(text, width=1):
    """The accesses of a program, one by one, from its text, so many as width for each of them."""
    bodies = [[]]
    for word in text.split(" ") if text else []:
        if word == "(":
            bodies.append([])
        elif word[0] == ")":
            body = bodies.pop()
            bodies[-1].extend(body * int(word[1:]))
        else:
            ends = [int(number) for number in word.split("-")]
            bodies[-1].extend(addresses_of([(ends[0], ends[-1])], width))
    assert len(bodies) == 1
    return bodies[0]
