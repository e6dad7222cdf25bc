"""A console for one program and one buffer."""

from scanmisses.buffers import Buffer
from scanmisses.errors import InvalidCommand
from scanmisses.programs import Program
from scanmisses.rounds import round_profile
from scanmisses.same import same_everywhere
from scanmisses.sets import block_profile, set_misses
from scanmisses.summaries import profile_of, summary_of
from scanmisses.texts import read_digits, scan_word

MOST_DIGITS = 100


class Console:
    """A console with a program, at first the empty one, and a buffer, at first of the size 0."""

    def __init__(self):
        self.program = Program("")
        self.buffer = Buffer(0)

    def execute(self, command):
        """Performs a command and returns its answer."""
        if not isinstance(command, str):
            raise InvalidCommand("not a string")
        word, space, text = command.partition(" ")
        if space and word in TEXT_COMMANDS:
            answer_text = TEXT_COMMANDS[word]
            return answer_text(self, text)
        words = command.split(" ")
        if word not in NUMBERS or len(words) != NUMBERS[word] + 1:
            raise InvalidCommand("no such command")
        numbers = [read_word(following) for following in words[1:]]
        answer = COMMANDS[word]
        return answer(self, numbers)


def read_word(word):
    """The number that a word of a command is."""
    number = read_digits(word, MOST_DIGITS)
    if number is None:
        raise InvalidCommand("not a number")
    return number


def joined_words(words):
    """An answer of several words."""
    return " ".join(words) if words else "-"


def told_scans(scans):
    """An answer of scans."""
    return joined_words([scan_word(scan) for scan in scans])


def told_profile(profile):
    """An answer of a profile."""
    return joined_words([str(profile.cold)] + [f"{low}-{high}*{times}" for low, high, times in profile.pieces])


def set_text(console, text):
    console.program = Program(text)
    return "ok"


def tell_same(console, text):
    return "yes" if same_everywhere(console.program, Program(text)) else "no"


def tell_misses(console, numbers):
    profile = profile_of(console.program)
    return str(profile(numbers[0]))


def tell_least(console, numbers):
    least = profile_of(console.program).least_size(numbers[0])
    return "none" if least is None else str(least)


def tell_profile(console, _):
    return told_profile(profile_of(console.program))


def tell_round(console, _):
    return told_profile(round_profile(console.program))


def tell_firsts(console, _):
    return told_scans(summary_of(console.program).firsts)


def tell_lasts(console, _):
    return told_scans(summary_of(console.program).lasts)


def tell_sets(console, numbers):
    return str(set_misses(console.program, numbers[0], numbers[1]))


def tell_blocks(console, numbers):
    return told_profile(block_profile(console.program, numbers[0]))


def set_buffer(console, numbers):
    console.buffer = Buffer(numbers[0])
    return "ok"


def play(console, _):
    return str(console.buffer.play(console.program))


def resize(console, numbers):
    return str(console.buffer.resize(numbers[0]))


def drop(console, numbers):
    return str(console.buffer.drop(numbers[0], numbers[1]))


def tell_resident(console, _):
    return told_scans(console.buffer.resident)


def undo(console, _):
    console.buffer.undo()
    return "ok"


# What stands behind these words, and a space, is a text.
TEXT_COMMANDS = {"program": set_text, "same": tell_same}

# How many numbers stand behind the other words.
NUMBERS = {
    "misses": 1, "least": 1, "profile": 0, "round": 0, "firsts": 0, "lasts": 0, "sets": 2, "blocks": 1, "buffer": 1,
    "play": 0, "resize": 1, "drop": 2, "resident": 0, "undo": 0,
}

COMMANDS = {
    "misses": tell_misses, "least": tell_least, "profile": tell_profile, "round": tell_round, "firsts": tell_firsts,
    "lasts": tell_lasts, "sets": tell_sets, "blocks": tell_blocks, "buffer": set_buffer, "play": play,
    "resize": resize, "drop": drop, "resident": tell_resident, "undo": undo,
}
