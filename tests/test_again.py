"""Section 6: programs that are run again behind a stop."""

import unittest

from scriptsamid.again import again, shows_again
from scriptsamid.errors import BadProgram, BadWords
from scriptsamid.programs import cuts, done
from scriptsamid.releases import Release
from samples import ANY_VALUES, PAIR, PAIR_WORDS, bent, both, rows_of_cuts, some_programs

XX = ("x", "x")
COPIES = (("copy", "a", "b"), ("set", "a", "y"))
TURNED = (("set", "a", "y"), ("copy", "a", "b"))
TURNED_STARTS = ((XX, ()), (("y", "x"), ()), (("y", "y"), ()))
# A first run wakes t, one behind its second cut would not.
WAKES = (("if", "a", "x", (("wake", "t"),), ()), ("set", "a", "y"))
# A first run fails, one behind its first cut does not.
FAILS = (("if", "a", "x", (("set", "a", "y"), ("fail",)), ()),)


class Again(unittest.TestCase):

    def setUp(self):
        self.release = Release(PAIR)

    def test_the_examples(self):
        self.assertEqual(again(self.release, COPIES, XX), ("parts", (1,)))
        self.assertEqual(again(self.release, TURNED, XX), ("same", TURNED_STARTS))

    def test_without_commands_there_is_one_start(self):
        for words in PAIR_WORDS:
            self.assertEqual(again(self.release, (), words), ("same", ((words, ()),)))
            self.assertEqual(again(self.release, (("fail",),), words), ("same", ((words, ()),)))

    def test_wakes_that_were_gathered_count(self):
        self.assertEqual(done(self.release, WAKES, XX), (("y", "x"), ("t",), False))
        self.assertEqual(done(self.release, WAKES, ("y", "x")), (("y", "x"), (), False))
        starts = ((XX, ()), (XX, ("t",)), (("y", "x"), ("t",)))
        self.assertEqual(again(self.release, WAKES, XX), ("same", starts))

    def test_wakes_that_only_a_later_run_has_part(self):
        program = (("set", "a", "y"), ("if", "b", "y", (("wake", "t"),), (("copy", "a", "b"),)))
        self.assertEqual(again(self.release, program, XX), ("parts", (1,)))

    def test_a_fail_that_only_one_run_has_parts(self):
        self.assertEqual(again(self.release, FAILS, XX), ("parts", (0,)))
        turned = (("if", "a", "y", (("fail",),), (("set", "a", "y"),)),)
        self.assertEqual(again(self.release, turned, XX), ("parts", (0,)))

    def test_failing_each_time_is_the_same(self):
        program = (("set", "a", "y"), ("wake", "u"), ("fail",))
        starts = ((XX, ()), (("y", "x"), ()), (("y", "x"), ("u",)))
        self.assertEqual(again(self.release, program, XX), ("same", starts))

    def test_more_than_one_stop(self):
        program = (
            ("if", "a", "y", (("if", "b", "y", (("fail",),), (("set", "b", "y"),)),), ()), ("set", "a", "y"),
            ("if", "b", "y", (("set", "b", "x"),), ()),
        )
        self.assertEqual(again(self.release, program, XX), ("parts", (0, 0)))

    def test_against_a_plain_search(self):
        for program in some_programs(3, 5):
            for words in PAIR_WORDS:
                told = again(self.release, program, words)
                self.assertEqual(told, self.plainly(program, words), (program, words))
                self.assertTrue(shows_again(self.release, program, words, told))

    def plainly(self, program, words):
        rows = list(rows_of_cuts(self.release, program, (words, ()), 4))
        for row, start in rows:
            if self.end(program, start) != self.end(program, (words, ())):
                return "parts", row
        return "same", tuple(sorted({start for _, start in rows}))

    def end(self, program, start):
        words, wakes, failed = done(self.release, program, start[0])
        return words, both(start[1], wakes), failed


class Shows(unittest.TestCase):

    def setUp(self):
        self.release = Release(PAIR)

    def shows(self, program, value, words=XX):
        told = shows_again(self.release, program, words, value)
        self.assertIs(told.__class__, bool)
        return told

    def test_all_starts_and_just_these(self):
        self.assertTrue(self.shows(TURNED, ("same", TURNED_STARTS)))
        self.assertFalse(self.shows(TURNED, ("same", TURNED_STARTS[:2])))
        self.assertFalse(self.shows(TURNED, ("same", TURNED_STARTS[1:])))
        self.assertFalse(self.shows(TURNED, ("same", TURNED_STARTS + ((("x", "y"), ()),))))
        self.assertFalse(self.shows(TURNED, ("same", TURNED_STARTS + TURNED_STARTS[2:])))
        self.assertFalse(self.shows(TURNED, ("same", TURNED_STARTS[::-1])))
        self.assertFalse(self.shows(TURNED, ("same", ())))

    def test_starts_of_a_program_that_is_not_the_same(self):
        rows = rows_of_cuts(self.release, COPIES, (XX, ()), 4)
        starts = tuple(sorted({start for _, start in rows}))
        self.assertFalse(self.shows(COPIES, ("same", starts)))
        self.assertFalse(self.shows(COPIES, ("parts", starts)))

    def test_numbers_of_any_size(self):
        for numbers in ((1,), (0, 1), (1, 0), (1, 1), (0, 0, 0, 0, 1), (1,) * 300):
            self.assertTrue(self.shows(COPIES, ("parts", numbers)), numbers)

    def test_numbers_behind_which_all_is_as_it_was(self):
        for numbers in ((), (0,), (0, 0)):
            self.assertFalse(self.shows(COPIES, ("parts", numbers)), numbers)
        for numbers in ((), (0,), (1,), (1, 1)):
            self.assertFalse(self.shows(TURNED, ("parts", numbers)), numbers)

    def test_rows_that_are_no_rows_of_cuts(self):
        for numbers in ((2,), (1, 2), (2, 1), (-1,), (1, -1), (0, -1), (10 ** 30,), (-10 ** 30,)):
            self.assertFalse(self.shows(COPIES, ("parts", numbers)), numbers)
        # Behind the first cut of this one nothing is done any more.
        self.assertTrue(self.shows(FAILS, ("parts", (0,))))
        self.assertFalse(self.shows(FAILS, ("parts", (0, 0))))
        self.assertFalse(self.shows(FAILS, ("parts", (1,))))

    def test_numbers_of_other_kinds(self):
        for numbers in ((True,), (False, 1), [1], ("1",), (None,), ((1,),), ([1],), 1, True, None, "1", {1: 1}):
            self.assertFalse(self.shows(COPIES, ("parts", numbers)), numbers)

    def test_right_evidence_bent(self):
        for program in (TURNED, WAKES):
            for value in bent(again(self.release, program, XX)):
                self.assertFalse(self.shows(program, value), value)
        for value in bent(("parts", (1,))):
            self.assertEqual(self.shows(COPIES, value), value == ("parts", (1, 1)), value)

    def test_any_values(self):
        for value in ANY_VALUES:
            for program in (COPIES, TURNED, ()):
                wrong = [value, ("same", value), ("parts", value), (value, (1,)), ("parts", (value, 1, 2)), ("same",)]
                for bad in wrong:
                    self.assertFalse(self.shows(program, bad), bad)

    def test_a_program_without_commands(self):
        self.assertTrue(self.shows((), ("same", ((XX, ()),))))
        for bad in (("same", ()), ("parts", ()), ("parts", (0,))):
            self.assertFalse(self.shows((), bad))

    def test_against_a_plain_search(self):
        for program in some_programs(2, 2):
            for words in PAIR_WORDS:
                first = done(self.release, program, words)
                for row, (here, wakes) in rows_of_cuts(self.release, program, (words, ()), 3):
                    end, more, failed = done(self.release, program, here)
                    parts = (end, both(wakes, more), failed) != first
                    self.assertEqual(self.shows(program, ("parts", row), words), parts, (program, row))
                    beyond = row + (len(cuts(self.release, program, here)),)
                    self.assertFalse(self.shows(program, ("parts", beyond), words))


class Refusals(unittest.TestCase):

    def test_the_program_then_the_words(self):
        release = Release(PAIR)
        for value in ANY_VALUES + [(("set", "a", "z"),), [("fail",)], ("fail",)]:
            if value != ():
                for words in (XX, value):
                    with self.assertRaises(BadProgram) as caught:
                        again(release, value, words)
                    self.assertIs(caught.exception.value, value)
                    for shown in (("same", ()), ("parts", ()), None):
                        with self.assertRaises(BadProgram):
                            shows_again(release, value, words, shown)
            if value != XX:
                with self.assertRaises(BadWords) as caught:
                    again(release, COPIES, value)
                self.assertIs(caught.exception.value, value)
                with self.assertRaises(BadWords) as caught:
                    shows_again(release, COPIES, value, value)
                self.assertIs(caught.exception.value, value)


if __name__ == "__main__":
    unittest.main()
