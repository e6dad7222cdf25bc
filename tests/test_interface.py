"""The names and arguments that the document lists, each defined in the file under which it is listed."""

import ast
import importlib
import inspect
import unittest

from test_code import PACKAGE

FUNCTIONS = {
    "lists": ["tidy(scans)", "count_addresses(scans)", "turned(scans)", "place_of(scans, address)",
              "nth_address(scans, index)", "first_part(scans, many)", "on_top(scans, scan)",
              "without(scans, low, high)"],
    "summaries": ["between(lasts, firsts)", "summary_of(program)", "profile_of(program)"],
    "same": ["same_everywhere(program, other)", "parting(program, other)"],
    "steps": ["written(program)", "parted(program, many)", "address_at(program, index)", "last_before(program, index)",
              "distance_at(program, index)", "count_reads(program, address)", "nth_read(program, address, index)"],
    "misses": ["missed(program, size)", "count_misses(program, size, many)", "nth_miss(program, size, index)"],
    "levels": ["level_misses(program, sizes)", "level_profile(program, sizes)", "stacked_hits(program, sizes)"],
    "sets": ["set_program(program, sets, number)", "set_classes(program, sets)", "set_misses(program, sets, ways)",
             "worst_set(program, sets, ways)", "block_profile(program, width)"],
    "rounds": ["round_profile(program)", "round_floor(program, size)", "best_directions(bodies, size)",
               "direction_changes(bodies)"],
    "splits": ["best_split(programs, size)", "least_whole(programs, misses)"],
    "points": ["program_for(cold, points)"],
}
BUFFER_METHODS = ["place(self, address)", "play(self, program)", "resize(self, size)", "drop(self, low, high)",
                  "undo(self)", "log(self)", "preview(self, *operations)", "__eq__(self, other)"]
METHODS = {
    "programs.Program": ["__init__(self, text)", "__add__(self, other)", "__mul__(self, times)", "__invert__(self)",
                         "__eq__(self, other)", "moved(self, shift)", "mirrored(self, top)", "spread(self, width)",
                         "blocks(self, width)"],
    "profiles.Profile": ["__init__(self, cold, pieces)", "__call__(self, size)", "at(self, distance)",
                         "least_size(self, misses)", "__add__(self, other)", "__mul__(self, times)",
                         "__eq__(self, other)"],
    "summaries.Summary": ["__add__(self, other)", "__mul__(self, times)", "__invert__(self)", "__eq__(self, other)"],
    "buffers.Buffer": ["__init__(self, size)", *BUFFER_METHODS],
    "buffers.BudgetBuffer": ["__init__(self, size, most)", *BUFFER_METHODS],
    "console.Console": ["__init__(self)", "execute(self, command)"],
}


def headings(body):
    """The functions that are defined in a body, as they are called."""
    found = [node for node in body if isinstance(node, ast.FunctionDef)]
    return [f"{node.name}({ast.unparse(node.args)})" for node in found]


class InterfaceTest(unittest.TestCase):
    def tree(self, name):
        return ast.parse((PACKAGE / f"{name}.py").read_text())

    def test_functions(self):
        for name, functions in FUNCTIONS.items():
            told = headings(self.tree(name).body)
            for function in functions:
                self.assertIn(function, told)

    def test_methods_stand_in_their_classes(self):
        for name, methods in METHODS.items():
            module, owner = name.split(".")
            bodies = [node.body for node in self.tree(module).body
                      if isinstance(node, ast.ClassDef) and node.name == owner]
            self.assertEqual(len(bodies), 1, name)
            for method in methods:
                self.assertIn(method, headings(bodies[0]), name)

    def test_functions_take_arguments_by_position(self):
        for name, functions in FUNCTIONS.items():
            module = importlib.import_module(f"scanmisses.{name}")
            for function in functions:
                parameters = inspect.signature(getattr(module, function.split("(")[0])).parameters.values()
                kinds = {parameter.kind for parameter in parameters}
                self.assertEqual(kinds, {inspect.Parameter.POSITIONAL_OR_KEYWORD})
                self.assertEqual({parameter.default for parameter in parameters}, {inspect.Parameter.empty})
