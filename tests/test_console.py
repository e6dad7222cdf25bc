import random
import unittest

from plain import BIG, FAR, ODD, random_texts
from scanmisses.buffers import Buffer
from scanmisses.console import Console
from scanmisses.errors import (
    InvalidCommand, InvalidInterval, InvalidNumber, InvalidText, Nothing, ScanError)
from scanmisses.programs import Program
from scanmisses.rounds import round_profile
from scanmisses.same import same_everywhere
from scanmisses.sets import block_profile, set_misses
from scanmisses.summaries import profile_of, summary_of

TEXTS = [
    "", "0", "0-3", "3-0", "2-9 4", "( 0-3 )5", "( 0-3 3-0 )5", "0-9 5-14", "( ( 12-9 3 )2 5-6 )3 11", "7 7 5",
    f"( ( 0-{BIG} ){BIG} 5-2 ){BIG}", f"( ( ( ( ( {BIG} 7-3 ){BIG} ){BIG} 4 ){BIG} ){BIG} ){BIG}",
]
WRONG_TEXTS = [" ", "0-3 ", " 0-3", "0  3", "3-3", "07", "( )2", "( 0", "0 )2", "( 0 )1", "a", "0\n1", "0-3\n", "\n",
               "program 0", "-", "0,3", "+1", f"{BIG + 1}", " ".join(["0"] * 41), "( ( ( ( ( ( 0 )2 )2 )2 )2 )2 )2"]
NUMBERS = [0, 1, 2, 3, 4, 7, 10, BIG, FAR, 10 * FAR - 1]


def words_of(scans):
    """The scans as in texts."""
    return " ".join(f"{first}-{last}" if first != last else str(first) for first, last in scans) or "-"


def line_of(profile):
    return " ".join([str(profile.cold), *[f"{low}-{high}*{times}" for low, high, times in profile.pieces]])


class ExamplesTest(unittest.TestCase):
    def test_examples_of_the_document(self):
        console = Console()
        self.assertEqual(console.execute("program ( 0-3 3-0 )5"), "ok")
        self.assertEqual(
            [console.execute(command) for command in [
                "misses 3", "least 13", "least 3", "profile", "lasts", "sets 2 1", "buffer 3", "play", "resident",
                "same 0"]],
            ['13', '3', 'none', '4 1-4*9', '0-3', '22', 'ok', '13', '0-2', 'no'])

    def test_class(self):
        self.assertEqual(Console.__module__, "scanmisses.console")
        self.assertIn("execute", vars(Console))

    def test_plain_answers(self):
        console = Console()
        answers = [
            ("program 0-9 5-14", "ok"), ("firsts", "0-14"), ("lasts", "14-0"), ("profile", "15 5-5*5"),
            ("round", "0 5-5*5 15-15*15"), ("misses 4", "20"), ("misses 5", "15"), ("least 14", "none"),
            ("least 15", "5"), ("least 20", "0"), ("same 0-14 5-14", "no"), ("same 0-9 5-14", "yes"),
            ("blocks 5", "3 1-1*17"), ("sets 3 1", "19"), ("sets 1 5", "15"), ("buffer 6", "ok"), ("resident", "-"),
            ("play", "15"), ("resident", "14-9"), ("resize 4", "2"), ("drop 13 20", "2"), ("resident", "12-11"),
            ("undo", "ok"), ("undo", "ok"), ("resident", "14-9"), ("program 9 7", "ok"), ("firsts", "9 7"),
            ("lasts", "7 9"), ("play", "1"), ("resident", "7 9 14-11"), ("program ", "ok"), ("profile", "0"),
            ("round", "0"), ("firsts", "-"), ("lasts", "-"), ("misses 0", "0"), ("least 0", "0"), ("same ", "yes"),
            ("same 0", "no"), ("sets 5 0", "0"), ("blocks 3", "0"), ("play", "0"), ("resident", "7 9 14-11"),
            ("program ( 5 )3", "ok"), ("profile", "1 1-1*2"), ("round", "0 1-1*3"), ("buffer 0", "ok"),
            ("play", "3"), ("resident", "-"),
        ]
        for command, answer in answers:
            self.assertEqual(console.execute(command), answer, command)


class CommandsTest(unittest.TestCase):
    def test_at_first(self):
        for command, answer in [
                ("profile", "0"), ("round", "0"), ("firsts", "-"), ("lasts", "-"), ("misses 0", "0"), ("least 0", "0"),
                ("same ", "yes"), ("sets 1 0", "0"), ("blocks 1", "0"), ("play", "0"), ("resident", "-"),
                ("resize 4", "0"), ("drop 0 9", "0")]:
            self.assertEqual(Console().execute(command), answer)
        console = Console()
        console.execute("program 0-3")
        self.assertEqual([console.execute("play"), console.execute("resident")], ["4", "-"])

    def test_against_the_functions(self):
        for text in TEXTS + random_texts(131, 60):
            console, program = Console(), Program(text)
            self.assertEqual(console.execute("program " + text), "ok")
            told, profile = summary_of(program), profile_of(program)
            answers = {"profile": line_of(profile), "round": line_of(round_profile(program)),
                       "firsts": words_of(told.firsts), "lasts": words_of(told.lasts)}
            for number in [*NUMBERS, profile.cold, profile.cold - 1, profile.accesses]:
                if 0 <= number < 10 * FAR:
                    least = profile.least_size(number)
                    answers[f"misses {number}"] = str(profile(number))
                    answers[f"least {number}"] = "none" if least is None else str(least)
            for sets in (1, 2, 5, BIG):
                answers[f"blocks {sets}"] = line_of(block_profile(program, sets))
                for ways in (0, 1, 3, FAR):
                    answers[f"sets {sets} {ways}"] = str(set_misses(program, sets, ways))
            for other in TEXTS:
                answers[f"same {other}"] = "yes" if same_everywhere(program, Program(other)) else "no"
            for command, answer in answers.items():
                self.assertEqual(console.execute(command), answer, (text, command))

    def test_buffer_commands(self):
        rnd = random.Random(132)
        for _ in range(60):
            console, buffer, program = Console(), Buffer(0), Program("")
            for _ in range(25):
                word = rnd.choice(["program", "buffer", "play", "play", "resize", "drop", "resident", "undo"])
                one, two = sorted([rnd.choice([*range(15), FAR]), rnd.choice([*range(15), FAR])])
                if word == "program":
                    program = Program(rnd.choice(TEXTS))
                    self.assertEqual(console.execute("program " + program.text), "ok")
                elif word == "buffer":
                    buffer = Buffer(one)
                    self.assertEqual(console.execute(f"buffer {one}"), "ok")
                elif word == "play":
                    self.assertEqual(console.execute("play"), str(buffer.play(program)))
                elif word == "resize":
                    self.assertEqual(console.execute(f"resize {one}"), str(buffer.resize(one)))
                elif word == "drop":
                    self.assertEqual(console.execute(f"drop {one} {two}"), str(buffer.drop(one, two)))
                elif word == "undo" and buffer.log():
                    buffer.undo()
                    self.assertEqual(console.execute("undo"), "ok")
                elif word == "undo":
                    with self.assertRaises(Nothing):
                        console.execute("undo")
                self.assertEqual(console.execute("resident"), words_of(buffer.resident))

    def test_numbers_of_hundred_digits(self):
        console = Console()
        console.execute("program ( 0-3 )5")
        longest = "9" * 100
        for command, answer in [
                (f"misses {longest}", "4"), (f"least {longest}", "0"), (f"sets 2 {longest}", "4"),
                (f"buffer {longest}", "ok"), ("play", "4"), (f"drop 1 {longest}", "3"), (f"resize {longest}", "0"),
                (f"drop {longest} {longest}", "0")]:
            self.assertEqual(console.execute(command), answer)
            with self.assertRaises(InvalidCommand):
                console.execute(command.replace(longest, "1" + "0" * 100) + ("" if longest in command else " 1"))

    def test_consoles_apart(self):
        one, two = Console(), Console()
        one.execute("program 0-3")
        one.execute("buffer 3")
        one.execute("play")
        self.assertEqual([two.execute("firsts"), two.execute("resident")], ["-", "-"])
        self.assertEqual([one.execute("firsts"), one.execute("resident")], ["0-3", "3-1"])


class WrongCommandsTest(unittest.TestCase):
    def setUp(self):
        self.console = Console()
        for command in ("program ( 0-3 )5", "buffer 3", "play"):
            self.console.execute(command)

    def tearDown(self):
        answers = [self.console.execute(command) for command in ("profile", "firsts", "resident", "undo", "resident")]
        self.assertEqual(answers, ["4 4-4*16", "0-3", "3-1", "ok", "-"])
        with self.assertRaises(Nothing):
            self.console.execute("undo")

    def refuse(self, error, command):
        with self.assertRaises(error, msg=command) as caught:
            self.console.execute(command)
        self.assertIsInstance(caught.exception, ScanError)
        self.assertIsInstance(caught.exception, ValueError)

    def test_no_strings(self):
        for value in [*ODD, 3, ["profile"], ("profile",), b"profile", Program("0"), {"profile": 0}, Console]:
            self.refuse(InvalidCommand, value)

    def test_words(self):
        for command in ["", " ", "\n", "unknown", "Profile", "PROFILE", "prof", "profiles", "programs 0", "program",
                        "same", "Program 0-3", "Same 0", "ok", "-", "0", "0-3", "exit", "log", "size", "preview",
                        "place 3", "Misses 3", "misse 3", "program\n0-3", "same\n0", "program\t0-3", "profile\tx",
                        "kept", "accesses", "sizes 1", "set 1 1", "block 1", "round_profile",
                        "__init__", "execute", "buffers 3"]:
            self.refuse(InvalidCommand, command)

    def test_numbers_of_words(self):
        for command in ["misses", "least", "sets", "sets 1", "blocks", "buffer", "resize", "drop", "drop 1",
                        "misses 1 2", "least 1 2", "profile 1", "round 1", "firsts 0", "lasts 0", "sets 1 2 3",
                        "blocks 1 2", "buffer 1 2", "play 1", "resize 1 2", "drop 1 2 3", "resident 1", "undo 1",
                        "play play", "profile round", "misses 3 x"]:
            self.refuse(InvalidCommand, command)

    def test_spaces(self):
        for command in ["profile", "misses 3", "drop 1 2", "undo", "play", "resident", "sets 1 2", "round", "firsts",
                        "lasts", "least 3", "blocks 3", "buffer 3", "resize 3"]:
            for wrong in (" " + command, command + " ", command + "  ", command + "\n", "\n" + command, command + "\t",
                          "\t" + command, command + "\r", command + "\nplay"):
                self.refuse(InvalidCommand, wrong)
            if " " in command:
                for sign in ("  ", "\n", "\t", " \n", "\u00a0", "_", "", ","):
                    self.refuse(InvalidCommand, command.replace(" ", sign))
        self.refuse(InvalidCommand, " program 0-3")
        self.refuse(InvalidCommand, " same 0-3")

    def test_numbers(self):
        wrong = ["", "00", "01", "007", "+1", "-1", "-0", "+0", "1.0", "1e3", "0x1", "1_000", "x", "three", "\u0663",
                 "\u00b2", "\uff13", "1 ", " 1", "1\n", "\n1", "1-2", "(1)", "None", "True", "1" + "0" * 100,
                 "9" * 5000, "1\u0663"]
        forms = ["misses {}", "least {}", "sets {} 1", "sets 1 {}", "blocks {}", "buffer {}", "resize {}", "drop {} 9",
                 "drop 0 {}"]
        for form in forms:
            for word in wrong:
                self.refuse(InvalidCommand, form.format(word))

    def test_errors_of_the_calls(self):
        for command in ("sets 0 1", f"sets {BIG + 1} 1", f"sets {FAR} 0", "blocks 0", f"blocks {BIG + 1}"):
            self.refuse(InvalidNumber, command)
        for command in ("drop 1 0", "drop 9 8", f"drop {FAR} 7"):
            self.refuse(InvalidInterval, command)

    def test_texts_that_are_refused(self):
        for text in WRONG_TEXTS:
            with self.assertRaises(InvalidText) as expected:
                Program(text)
            for word in ("program", "same"):
                with self.assertRaises(InvalidText, msg=text) as caught:
                    self.console.execute(f"{word} {text}")
                self.assertEqual(caught.exception.index, expected.exception.index)

    def test_errors_leave_a_first_console_as_it_is(self):
        console = Console()
        for command, error in (("undo", Nothing), ("program 3-3", InvalidText), ("buffer", InvalidCommand),
                               ("buffer -1", InvalidCommand), ("drop 2 1", InvalidInterval)):
            with self.assertRaises(error):
                console.execute(command)
        self.assertEqual([console.execute("firsts"), console.execute("resident")], ["-", "-"])
