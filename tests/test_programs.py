"""Section 5: which words and programs there are, and which program stands where."""

import unittest

from scriptsamid.errors import NoProgram
from scriptsamid.programs import first_words, is_program, is_words, program_at
from scriptsamid.releases import Release
from samples import ANY_VALUES, FULL, HOUSE, WEB

FAIL = ("fail",)
RIGHT = (
    ("set", "a", "y"),
    ("copy", "a", "b"),
    ("wake", "u"),
    ("if", "d", "x", (("set", "c", "y"), ("if", "c", "x", (FAIL,), (("copy", "b", "a"),))), (("wake", "t"),)),
    ("if", "a", "z", (FAIL,), ()),
    FAIL,
)


def spoiled(value):
    """The value with one part, at any depth, put otherwise."""
    others = [True, False, None, 0, 1, [], {}, {"a": value}, (value,), [value], 10 ** 20]
    if isinstance(value, str):
        others += [value + "q", value.upper(), value + " ", "", [*value]]
    else:
        others += [list(value), {k: part for k, part in enumerate(value)}, "".join(map(str, value)) or "x"]
        for k, part in enumerate(value):
            others += [value[:k] + (other,) + value[k + 1:] for other in spoiled(part)]
    return others


def parts(value):
    """All commands of a program, those within ifs too, each with the way to put another one for it."""
    for k, command in enumerate(value):
        yield command, lambda other, k=k: value[:k] + (other,) + value[k + 1:]
        if command[0] == "if":
            for place in (3, 4):
                for inner, put in parts(command[place]):
                    yield inner, lambda other, k=k, place=place, put=put, command=command: (
                        value[:k] + (command[:place] + (put(other),) + command[place + 1:],) + value[k + 1:]
                    )


class Words(unittest.TestCase):

    def setUp(self):
        self.release = Release(HOUSE)

    def test_first_words(self):
        self.assertEqual(first_words(self.release), ("x", "x", "x", "y"))
        self.assertEqual(first_words(Release(WEB)), ("off", "none", "light"))
        self.assertEqual(first_words(Release("cell a k l\npackage p\n  edition 1\nset n")), ("k",))

    def test_right_words(self):
        for a in "xyz":
            for b in "xyz":
                for c in "xy":
                    for d in "xy":
                        self.assertIs(is_words(self.release, (a, b, c, d)), True)
        self.assertIs(is_words(Release(WEB), ("fast", "b", "dark")), True)

    def test_words_of_the_wrong_cell(self):
        for words in (("x", "x", "z", "x"), ("x", "x", "x", "z"), ("x", "w", "x", "x"), ("own", "x", "x", "x")):
            self.assertIs(is_words(self.release, words), False)

    def test_other_lengths(self):
        for words in ((), ("x",), ("x", "x", "x"), ("x", "x", "x", "x", "x"), ("x",) * 1000):
            self.assertIs(is_words(self.release, words), False)
        single = Release("cell a x y\npackage p\n  edition 1\nset n")
        self.assertIs(is_words(single, "x"), False)
        self.assertIs(is_words(single, ("x",)), True)

    def test_spoiled_words(self):
        for value in spoiled(("x", "x", "y", "x")):
            self.assertIs(is_words(self.release, value), False, value)

    def test_any_values(self):
        for value in [*ANY_VALUES, "xxxx", ["x", "x", "x", "x"], {"x": 1}, (("x",) * 4,)]:
            self.assertIs(is_words(self.release, value), False)


class Programs(unittest.TestCase):

    def setUp(self):
        self.release = Release(HOUSE)

    def judged(self, value, wanted):
        self.assertIs(is_program(self.release, value), wanted, value)

    def test_right_programs(self):
        self.judged((), True)
        self.judged(RIGHT, True)
        for command in RIGHT:
            self.judged((command,), True)
            self.judged((command, command), True)

    def test_programs_of_the_release(self):
        for text in (WEB, FULL, HOUSE):
            release = Release(text)
            for package in release.packages:
                for name in ("before", "behind", "leaves", "gone", "back before", "back gone"):
                    self.assertIs(is_program(release, program_at(release, package, 1, name)), True)
                for name in ("at t", "at u", "at index"):
                    self.assertIs(is_program(release, program_at(release, package, 0, name)), True)

    def test_own_cells_may_be_set_and_copied(self):
        self.judged((("set", "c", "x"), ("copy", "c", "c")), True)

    def test_copies(self):
        for one, other in (("a", "a"), ("a", "b"), ("b", "a"), ("d", "d")):
            self.judged((("copy", one, other),), True)
        # d has the words of c, but in another sequence.
        for one, other in (("a", "c"), ("c", "a"), ("c", "d"), ("d", "c"), ("a", "e"), ("e", "a"), ("e", "e")):
            self.judged((("copy", one, other),), False)

    def test_names_that_there_are_not(self):
        for command in (
            ("set", "e", "x"), ("set", "a", "w"), ("set", "c", "z"), ("wake", "v"), ("wake", "a"), ("set", "p", "x"),
            ("if", "e", "x", (FAIL,), ()), ("if", "c", "z", (FAIL,), ()), ("run", "a"), ("at", "t"), ("else",),
        ):
            self.judged((command,), False)

    def test_lengths_of_commands(self):
        for command in [*RIGHT, RIGHT[3][3][1]]:
            for length in range(len(command)):
                self.judged((command[:length],), False)
            for more in ("x", (), (FAIL,), None):
                self.judged((command + (more,),), False)
        self.judged(((),), False)
        self.judged((("copy", "a", "to", "b"),), False)
        self.judged((("if", "a", "=", "x", (FAIL,), ()),), False)

    def test_spoiled_commands_at_any_depth(self):
        many = 0
        for command, put in parts(RIGHT):
            self.judged(put(command), True)
            for other in spoiled(command):
                self.judged(put(other), False)
                many += 1
        self.assertGreater(many, 500)

    def test_a_program_as_a_list_or_a_command_alone(self):
        self.judged(list(RIGHT), False)
        self.judged([], False)
        for command in RIGHT:
            self.judged(command, False)

    def test_numbers_of_commands(self):
        self.judged((FAIL,) * 6, True)
        self.judged((FAIL,) * 7, False)
        self.judged((RIGHT[3],) * 6, True)
        self.judged((RIGHT[3],) * 7, False)

    def test_numbers_in_the_parts_of_an_if(self):
        for many in range(7):
            self.judged((("if", "a", "x", (FAIL,) * many, ()),), 1 <= many <= 4)
            self.judged((("if", "a", "x", (FAIL,), (FAIL,) * many),), many <= 4)
            inner = ("if", "b", "x", (FAIL,) * many, ())
            self.judged((("if", "a", "x", (inner,), ()),), 1 <= many <= 4)
            self.judged((("if", "a", "x", (FAIL,), (inner,)),), 1 <= many <= 4)
            inner = ("if", "b", "x", (FAIL,), (FAIL,) * many)
            self.judged((("if", "a", "x", (FAIL,), (inner,)),), many <= 4)

    def test_depth_of_ifs(self):
        for first in (True, False):
            command = FAIL
            for depth in range(1, 20):
                command = ("if", "a", "x", (command,), ()) if first else ("if", "a", "x", (FAIL,), (command,))
                self.judged((command,), depth <= 2)

    def test_any_values(self):
        for value in ANY_VALUES:
            self.judged(value, value == () and isinstance(value, tuple))
            self.judged((value,), False)
            self.judged((("if", "a", "x", value, ()),), False)
            self.judged((("set", value, "x"),), False)
            self.judged((("set", "a", value),), value == "x")
            self.judged((("copy", value, "a"),), False)
            self.judged((("copy", "a", value),), False)
            self.judged((("wake", value),), False)
            self.judged((("if", value, "x", (FAIL,), ()),), False)
            self.judged((("if", "a", value, (FAIL,), ()),), value == "x")

    def test_triggers_and_cells_of_the_release_alone(self):
        self.assertIs(is_program(Release(WEB), (("wake", "index"),)), True)
        self.assertIs(is_program(Release(WEB), (("wake", "t"),)), False)
        self.assertIs(is_program(Release(WEB), (("set", "a", "x"),)), False)


class ProgramAt(unittest.TestCase):

    def setUp(self):
        self.release = Release(HOUSE)

    def at(self, *place):
        return program_at(self.release, *place)

    def refused(self, *place):
        with self.assertRaises(NoProgram) as caught:
            program_at(self.release, *place)
        self.assertEqual(caught.exception.value, place)
        self.assertEqual([part.__class__ for part in caught.exception.value], [part.__class__ for part in place])

    def test_each_name(self):
        wanted = {
            "before": (("set", "a", "y"),), "behind": (("wake", "u"),), "leaves": (FAIL,), "gone": (("set", "a", "x"),),
            "back before": (("set", "a", "z"),), "back behind": (("set", "b", "x"),),
            "back leaves": (("set", "b", "y"),), "back gone": (("set", "b", "z"),),
        }
        for name, program in wanted.items():
            self.assertEqual(self.at("p", 1, name), program)

    def test_other_editions_and_triggers(self):
        self.assertEqual(self.at("p", 2, "behind"), (("copy", "a", "b"),))
        self.assertEqual(self.at("p", 0, "at t"), (("set", "a", "z"),))
        self.assertEqual(self.at("p", 0, "at u"), (("if", "a", "x", (("set", "b", "y"),), (("wake", "t"),)),))

    def test_programs_of_web_and_full(self):
        web = Release(WEB)
        wanted = (("if", "log", "b", (("set", "mode", "fast"),), (("set", "mode", "slow"),)),)
        self.assertEqual(program_at(web, "web", 1, "behind"), wanted)
        self.assertEqual(program_at(web, "web", 1, "back behind"), (("set", "mode", "off"),))
        self.assertEqual(program_at(web, "base", 2, "behind"), (("wake", "index"),))
        wanted = (("if", "mode", "slow", (("set", "mode", "fast"),), ()),)
        self.assertEqual(program_at(web, "web", 0, "at index"), wanted)
        wanted = (
            ("set", "a", "y"), ("copy", "a", "b"), ("wake", "t"), ("if", "a", "y", (FAIL,), (("set", "b", "y"),)),
        )
        self.assertEqual(program_at(Release(FULL), "p", 1, "before"), wanted)

    def test_none_where_there_is_none(self):
        for name in ("before", "leaves", "gone", "back before", "back behind", "back leaves", "back gone"):
            self.assertEqual(self.at("p", 2, name), ())
            self.assertEqual(self.at("q", 1, name), ())
        for name in ("at v", "at a", "at p", "at zzzzzzzz"):
            self.assertEqual(self.at("p", 0, name), ())
        # A trigger of another package.
        self.assertEqual(self.at("q", 0, "at t"), ())

    def test_no_such_package(self):
        for package in ("r", "", "P", "p ", "none", "a"):
            self.refused(package, 1, "before")
            self.refused(package, 0, "at t")

    def test_no_such_edition(self):
        for edition in (0, 3, -1, -2, 10 ** 30):
            self.refused("p", edition, "behind")
        self.refused("q", 2, "behind")
        for edition in (1, 2, 3, -1, 10 ** 30):
            self.refused("p", edition, "at t")

    def test_no_such_name(self):
        for name in (
            "", "back", "at", "at ", "lay", "Before", "before ", " before", "back  before", "back back", "at  t",
            "at t ", "at zzzzzzzzz", "at t1", "at T", "at t u", "set", "p", "back at t", "before behind",
        ):
            self.refused("p", 1, name)
            self.refused("p", 0, name)
        reserved = (
            "cell own package edition needs lays before behind leaves gone back at set copy to wake fail if else"
        )
        for name in reserved.split(" "):
            self.refused("p", 0, f"at {name}")

    def test_true_and_false_are_no_editions(self):
        self.refused("p", True, "before")
        self.refused("p", False, "at t")

    def test_any_values(self):
        for value in ANY_VALUES:
            self.refused(value, 1, "before")
            self.refused(value, 0, "at t")
            if value.__class__ is not int or value not in (1, 2):
                self.refused("p", value, "before")
            if value.__class__ is not int or value != 0:
                self.refused("p", value, "at t")
            self.refused("p", 1, value)
            if value != "at t":
                self.refused("p", 0, value)
            self.refused(value, value, value)


if __name__ == "__main__":
    unittest.main()
