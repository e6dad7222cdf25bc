"""The texts of programs: read into parts, and written from them."""

from scanmisses.checks import GREATEST
from scanmisses.errors import InvalidText
from scanmisses.parts import is_repeat

MOST_SCANS = 40
MOST_BRACKETS = 5
MOST_DIGITS = 31
CHUNK_DIGITS = 64
CHUNK = 10 ** 64


def read_digits(word, most):
    """The number that a word of at most so many digits is, or None if it is none from 0 on."""
    # The length is tested first: Python refuses to read very long numbers.
    if len(word) > most or not word.isascii() or not word.isdigit():
        return None
    if word.startswith("0") and word != "0":
        return None
    return int(word)


def read_number(word):
    """The number that a word is, or None if it is none from 0 to GREATEST."""
    number = read_digits(word, MOST_DIGITS)
    return None if number is None or number > GREATEST else number


def read_scan(word):
    """The scan that a word is, or None if it is none."""
    start, dash, stop = word.partition("-")
    first = read_number(start)
    if dash == "":
        return None if first is None else (first, first)
    last = read_number(stop)
    if first is None or last is None or first == last:
        return None
    return (first, last)


def read_times(word):
    """The number of a word `)N`, or None if the word is none."""
    times = read_number(word[1:])
    return None if times is None or times < 2 else times


def read_text(text):
    """The parts of the program with a text."""
    if not isinstance(text, str):
        raise InvalidText(None)
    words = text.split(" ") if text else []
    # One tuple of parts for each bracket that stays open so far, behind that of the program itself.
    bodies = [()]
    many = 0
    for index, word in enumerate(words):
        if word == "(":
            if len(bodies) > MOST_BRACKETS:
                raise InvalidText(index)
            bodies.append(())
        elif word.startswith(")"):
            times = read_times(word)
            if times is None or len(bodies) == 1 or bodies[-1] == ():
                raise InvalidText(index)
            body = bodies.pop()
            bodies[-1] = bodies[-1] + ((times, body),)
        else:
            scan = read_scan(word)
            many += 1
            if scan is None or many > MOST_SCANS:
                raise InvalidText(index)
            bodies[-1] = bodies[-1] + (scan,)
    if len(bodies) > 1:
        raise InvalidText(len(words))
    return bodies[0]


def digits_of(number):
    """The decimal digits of a number from 0 on, however long it is."""
    # In chunks: Python refuses to write very long numbers.
    chunks = []
    while number >= CHUNK:
        number, rest = divmod(number, CHUNK)
        chunks.append(str(rest).zfill(CHUNK_DIGITS))
    chunks.append(str(number))
    return "".join(chunks[::-1])


def scan_word(scan):
    """The word for a scan."""
    first, last = scan
    return digits_of(first) if first == last else f"{digits_of(first)}-{digits_of(last)}"


def words_of(parts):
    """The list of the words for parts."""
    words = []
    for part in parts:
        if is_repeat(part):
            words.append("(")
            words.extend(words_of(part[1]))
            words.append(f"){digits_of(part[0])}")
        else:
            words.append(scan_word(part))
    return words
