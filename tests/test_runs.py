"""Section 5: what programs do, where they may be stopped, and what is refused."""

import unittest

from scriptsamid.errors import BadProgram, BadWords
from scriptsamid.programs import cuts, done, first_words, program_at
from scriptsamid.releases import Release
from samples import ANY_VALUES, HOUSE, WEB

FAIL = ("fail",)
START = ("x", "x", "x", "y")


class Done(unittest.TestCase):

    def setUp(self):
        self.release = Release(HOUSE)

    def runs_to(self, program, words, wanted, stops):
        """Checks done and cuts of a program; stops are the pairs of cuts."""
        told = done(self.release, program, words)
        self.assertEqual(told, wanted)
        self.assertIsInstance(told, tuple)
        self.assertIs(told[2], wanted[2])
        self.assertEqual(cuts(self.release, program, words), stops)

    def test_the_empty_program(self):
        self.runs_to((), START, (START, (), False), ())
        self.runs_to((), ("z", "y", "y", "x"), (("z", "y", "y", "x"), (), False), ())

    def test_set(self):
        behind = ("z", "x", "x", "y")
        self.runs_to((("set", "a", "z"),), START, (behind, (), False), ((behind, ()),))
        behind = ("x", "x", "x", "x")
        self.runs_to((("set", "d", "x"),), START, (behind, (), False), ((behind, ()),))
        behind = ("x", "x", "y", "y")
        self.runs_to((("set", "c", "y"),), START, (behind, (), False), ((behind, ()),))

    def test_copy_goes_from_the_first_to_the_second(self):
        behind = ("x", "x", "y", "y")
        self.runs_to((("copy", "a", "b"),), ("x", "z", "y", "y"), (behind, (), False), ((behind, ()),))
        behind = ("z", "z", "y", "y")
        self.runs_to((("copy", "b", "a"),), ("x", "z", "y", "y"), (behind, (), False), ((behind, ()),))

    def test_wake(self):
        self.runs_to((("wake", "u"),), START, (START, ("u",), False), ((START, ("u",)),))

    def test_wakes_are_ascending_and_told_once(self):
        program = (("wake", "u"), ("wake", "t"), ("wake", "u"), ("wake", "t"))
        both = (START, ("t", "u"))
        self.runs_to(program, START, (*both, False), ((START, ("u",)), both, both, both))

    def test_a_cut_also_where_nothing_changes(self):
        program = (("set", "a", "x"), ("copy", "a", "b"), ("copy", "a", "a"))
        self.runs_to(program, START, (START, (), False), ((START, ()),) * 3)

    def test_commands_one_behind_the_other(self):
        program = (("set", "a", "y"), ("copy", "a", "b"), ("wake", "t"), ("set", "a", "z"))
        one, two, three = ("y", "x", "x", "y"), ("y", "y", "x", "y"), ("z", "y", "x", "y")
        stops = ((one, ()), (two, ()), (two, ("t",)), (three, ("t",)))
        self.runs_to(program, START, (three, ("t",), False), stops)

    def test_the_example_of_section_6(self):
        copied, turned = (("copy", "a", "b"), ("set", "a", "y")), (("set", "a", "y"), ("copy", "a", "b"))
        one, two = ("y", "x", "x", "y"), ("y", "y", "x", "y")
        self.runs_to(copied, START, (one, (), False), ((START, ()), (one, ())))
        self.runs_to(copied, one, (two, (), False), ((two, ()), (two, ())))
        self.runs_to(turned, START, (two, (), False), ((one, ()), (two, ())))

    def test_fail_at_the_top(self):
        self.runs_to((FAIL,), START, (START, (), True), ())
        self.runs_to((FAIL, ("set", "a", "y"), ("wake", "t")), START, (START, (), True), ())

    def test_fail_behind_other_commands_keeps_what_was_done(self):
        behind = ("y", "x", "x", "y")
        program = (("set", "a", "y"), ("wake", "t"), FAIL, ("set", "b", "y"), ("wake", "u"))
        self.runs_to(program, START, (behind, ("t",), True), ((behind, ()), (behind, ("t",))))

    def test_fail_in_an_if_ends_the_whole_run(self):
        program = (("if", "a", "x", (("set", "b", "y"), FAIL, ("set", "b", "z")), ()), ("set", "a", "z"))
        behind = ("x", "y", "x", "y")
        self.runs_to(program, START, (behind, (), True), ((behind, ()),))
        behind = ("z", "x", "x", "y")
        self.runs_to(program, ("y", "x", "x", "y"), (behind, (), False), ((behind, ()),))

    def test_fail_in_an_if_in_an_if(self):
        inner = ("if", "b", "x", (FAIL,), (("wake", "u"),))
        program = (("if", "a", "x", (("wake", "t"), inner, ("set", "d", "x")), ()), ("set", "a", "z"))
        self.runs_to(program, START, (START, ("t",), True), ((START, ("t",)),))
        words, one, two = ("x", "y", "x", "y"), ("x", "y", "x", "x"), ("z", "y", "x", "x")
        both = ("t", "u")
        self.runs_to(program, words, (two, both, False), ((words, ("t",)), (words, both), (one, both), (two, both)))

    def test_tests_are_no_cuts(self):
        self.runs_to((("if", "a", "y", (FAIL,), ()),), START, (START, (), False), ())
        self.runs_to((("if", "a", "x", (FAIL,), ()),), START, (START, (), True), ())
        behind = ("x", "y", "x", "y")
        program = (("if", "a", "x", (("if", "b", "x", (("set", "b", "y"),), ()),), ()),)
        self.runs_to(program, START, (behind, (), False), ((behind, ()),))

    def test_if_and_else(self):
        program = (("if", "d", "x", (("set", "a", "y"),), (("set", "b", "z"), ("wake", "u"))),)
        words = ("x", "x", "x", "x")
        behind = ("y", "x", "x", "x")
        self.runs_to(program, words, (behind, (), False), ((behind, ()),))
        behind = ("x", "z", "x", "y")
        self.runs_to(program, START, (behind, ("u",), False), ((behind, ()), (behind, ("u",))))

    def test_ifs_in_both_parts(self):
        inner = ("if", "b", "x", (("set", "b", "y"),), (("set", "b", "z"),))
        program = (("if", "a", "x", (inner,), (("set", "c", "y"), inner)),)
        for words, wanted in (
            (("x", "x", "x", "x"), [("x", "y", "x", "x")]),
            (("x", "y", "x", "x"), [("x", "z", "x", "x")]),
            (("y", "x", "x", "x"), [("y", "x", "y", "x"), ("y", "y", "y", "x")]),
            (("z", "y", "x", "x"), [("z", "y", "y", "x"), ("z", "z", "y", "x")]),
        ):
            self.runs_to(program, words, (wanted[-1], (), False), tuple((row, ()) for row in wanted))

    def test_a_test_sees_what_was_set_before(self):
        program = (("set", "a", "y"), ("if", "a", "y", (("set", "b", "z"),), (FAIL,)))
        one, two = ("y", "x", "x", "y"), ("y", "z", "x", "y")
        self.runs_to(program, START, (two, (), False), ((one, ()), (two, ())))
        program = (("if", "a", "x", (("set", "a", "y"), ("if", "a", "x", (FAIL,), (("wake", "t"),))), ()),)
        self.runs_to(program, START, (one, ("t",), False), ((one, ()), (one, ("t",))))

    def test_one_if_behind_the_other(self):
        turn = ("if", "c", "x", (("set", "c", "y"),), (("set", "c", "x"),))
        one = ("x", "x", "y", "y")
        self.runs_to((turn, turn, turn), START, (one, (), False), ((one, ()), (START, ()), (one, ())))

    def test_programs_of_web(self):
        web = Release(WEB)
        behind = program_at(web, "web", 1, "behind")
        self.assertEqual(done(web, behind, first_words(web)), (("slow", "none", "light"), (), False))
        self.assertEqual(done(web, behind, ("off", "b", "dark")), (("fast", "b", "dark"), (), False))
        index = program_at(web, "web", 0, "at index")
        self.assertEqual(cuts(web, index, ("slow", "b", "dark")), ((("fast", "b", "dark"), ()),))
        self.assertEqual(cuts(web, index, ("fast", "b", "dark")), ())

    def test_equal_calls_return_equal_results(self):
        program = (("set", "a", "y"), ("wake", "t"))
        for call in (done, cuts):
            self.assertEqual(call(self.release, program, START), call(Release(HOUSE), tuple(list(program)), START))


class Refused(unittest.TestCase):

    def setUp(self):
        self.release = Release(HOUSE)

    def refused(self, error, value, program, words):
        for call in (done, cuts):
            with self.assertRaises(error) as caught:
                call(self.release, program, words)
            self.assertIs(caught.exception.value, value)

    def test_programs_of_any_value(self):
        longer, other = (FAIL,) * 7, (("set", "a", "w"),)
        for value in [*ANY_VALUES, FAIL, [FAIL], longer, other, (("wake", "v"),), (("if", "a", "x", (), ()),)]:
            if value != () or not isinstance(value, tuple):
                self.refused(BadProgram, value, value, START)

    def test_words_of_any_value(self):
        for value in [*ANY_VALUES, list(START), START[:3], START + ("x",), ("x", "x", "x", "z"), "xxxy"]:
            self.refused(BadWords, value, (), value)
            self.refused(BadWords, value, (FAIL,), value)

    def test_the_program_is_refused_first(self):
        for value in ANY_VALUES:
            if value != () or not isinstance(value, tuple):
                self.refused(BadProgram, value, value, value)
                self.refused(BadProgram, value, value, None)


if __name__ == "__main__":
    unittest.main()
