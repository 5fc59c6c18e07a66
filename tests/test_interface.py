"""Section 2 and the interface: where what is listed is defined, how it is called, and that it changes nothing."""

import ast
import copy
import importlib
import inspect
import unittest

from scriptsamid.errors import NoProgram, ScriptError
from scriptsamid.programs import cuts, done, first_words, is_program, is_words, program_at
from scriptsamid.releases import Release
from samples import ANY_VALUES, HOUSE, WEB

LISTED = {
    "releases": {"Release": ["text"]},
    "programs": {
        "is_words": ["release", "value"],
        "first_words": ["release"],
        "is_program": ["release", "value"],
        "program_at": ["release", "package", "edition", "name"],
        "done": ["release", "program", "words"],
        "cuts": ["release", "program", "words"],
    },
}
START = ("x", "x", "x", "y")
PROGRAM = (("set", "a", "y"), ("wake", "t"), ("if", "b", "x", (("fail",),), ()))


class Places(unittest.TestCase):

    def test_each_is_defined_in_its_own_file(self):
        for name, members in LISTED.items():
            module = importlib.import_module(f"scriptsamid.{name}")
            tree = ast.parse(inspect.getsource(module))
            defined = [node.name for node in tree.body if isinstance(node, (ast.FunctionDef, ast.ClassDef))]
            for member in members:
                self.assertIn(member, defined)

    def test_names_of_parameters(self):
        for name, members in LISTED.items():
            module = importlib.import_module(f"scriptsamid.{name}")
            for member, wanted in members.items():
                told = inspect.signature(getattr(module, member)).parameters
                self.assertEqual(list(told), wanted)
                for parameter in told.values():
                    self.assertEqual(parameter.kind, inspect.Parameter.POSITIONAL_OR_KEYWORD)

    def test_errors_are_defined_in_their_file(self):
        module = importlib.import_module("scriptsamid.errors")
        self.assertEqual(inspect.getsource(module).count("import"), 0)

    def test_release_compares_by_its_own_method(self):
        self.assertIn("__eq__", vars(Release))
        self.assertIn("__init__", vars(Release))


class Calls(unittest.TestCase):

    def setUp(self):
        self.release = Release(HOUSE)

    def test_by_position_and_by_name(self):
        release = self.release
        self.assertEqual(Release(HOUSE), Release(text=HOUSE))
        self.assertTrue(is_words(release, START) and is_words(release=release, value=START))
        self.assertEqual(first_words(release), first_words(release=release))
        self.assertTrue(is_program(release, PROGRAM) and is_program(value=PROGRAM, release=release))
        named = program_at(release=release, package="p", edition=1, name="before")
        self.assertEqual(program_at(release, "p", 1, "before"), named)
        for call in (done, cuts):
            self.assertEqual(call(release, PROGRAM, START), call(words=START, program=PROGRAM, release=release))
        self.assertEqual(done(release, PROGRAM, START), (("y", "x", "x", "y"), ("t",), True))
        with self.assertRaises(NoProgram):
            program_at(release=release, package="p", edition=True, name="before")

    def test_attributes_are_set_when_a_release_is_made(self):
        for text in (WEB, HOUSE):
            release = Release(text)
            for name in ("text", "cells", "packages", "sets"):
                self.assertTrue(hasattr(release, name))
            for names in (release.cells, release.packages, release.sets):
                self.assertIs(names.__class__, tuple)

    def test_returned_sequences_are_tuples(self):
        release = self.release
        for told in (
            first_words(release), program_at(release, "p", 1, "before"), done(release, PROGRAM, START),
            done(release, PROGRAM, START)[0], done(release, PROGRAM, START)[1], cuts(release, PROGRAM, START),
            cuts(release, PROGRAM, START)[0], cuts(release, PROGRAM, START)[1][1],
        ):
            self.assertIs(told.__class__, tuple)

    def test_what_is_handed_in_stays_as_it_was(self):
        values = [*ANY_VALUES, list(PROGRAM), [list(command) for command in PROGRAM], list(START)]
        calls = [
            Release, lambda value: is_words(self.release, value), lambda value: is_program(self.release, value),
            lambda value: program_at(self.release, value, value, value), lambda value: done(self.release, value, START),
            lambda value: cuts(self.release, PROGRAM, value),
        ]
        for value in values:
            before = copy.deepcopy(value)
            for call in calls:
                try:
                    call(value)
                except ScriptError:
                    pass
                self.assertEqual(repr(value), repr(before))

    def test_calls_do_not_change_the_release(self):
        before = [program_at(self.release, "p", 1, "before"), program_at(self.release, "p", 0, "at u")]
        done(self.release, before[1], START)
        cuts(self.release, before[0], START)
        self.assertEqual([program_at(self.release, "p", 1, "before"), program_at(self.release, "p", 0, "at u")], before)
        self.assertEqual((self.release.text, self.release.cells), (HOUSE, ("a", "b", "c", "d")))
        self.assertEqual(first_words(self.release), START)


if __name__ == "__main__":
    unittest.main()
