"""Section 7: programs that are taken back by a counter-program."""

import itertools
import unittest

from scriptsamid.back import back, shows_back
from scriptsamid.errors import BadProgram, BadWords
from scriptsamid.programs import cuts, done
from scriptsamid.releases import Release
from samples import ANY_VALUES, PAIR, PAIR_WORDS, bent, rows_of_cuts, some_programs, text_of

XX, XY, YX, YY = PAIR_WORDS
BOTH = (("set", "a", "y"), ("set", "b", "y"))
BOTH_BACK = (("set", "a", "x"), ("set", "b", "x"))
# From (x, x) it stops once at (y, x) and, run again from there, at (y, y).
TWICE = (("if", "a", "y", (("set", "b", "y"),), (("set", "a", "y"),)),)


class Back(unittest.TestCase):

    def setUp(self):
        self.release = Release(PAIR)

    def back(self, program, counter, words=XX):
        told = back(self.release, program, counter, words)
        self.assertTrue(shows_back(self.release, program, counter, words, told))
        return told

    def test_one_that_takes_all_back(self):
        # The counter-program stops at (x, y), where the program never was.
        self.assertEqual(self.back(BOTH, BOTH_BACK), ("back", (XX, XY, YX, YY)))
        self.assertEqual(self.back(BOTH[:1], BOTH_BACK[:1]), ("back", (XX, YX)))

    def test_one_that_takes_nothing_back(self):
        self.assertEqual(self.back(BOTH, (("wake", "t"),)), ("left", (0,), ()))
        self.assertEqual(self.back(BOTH, BOTH), ("left", (0,), ()))

    def test_an_empty_one(self):
        self.assertEqual(self.back(BOTH, ()), ("left", (0,), ()))
        self.assertEqual(self.back((("set", "a", "x"), ("set", "a", "y")), ()), ("left", (1,), ()))
        self.assertEqual(self.back((("set", "a", "x"), ("wake", "t")), ()), ("back", (XX,)))

    def test_one_that_fails(self):
        self.assertEqual(self.back(BOTH, BOTH_BACK + (("fail",),)), ("left", (0,), ()))
        only = (("if", "b", "y", (("fail",),), (("set", "a", "x"),)),)
        self.assertEqual(self.back(BOTH, only), ("left", (1,), ()))

    def test_one_that_is_stopped_itself(self):
        # From (y, x) it goes over (y, y), and from there it fails.
        counter = (("if", "b", "y", (("fail",),), (("set", "b", "y"), ("set", "a", "x"), ("set", "b", "x"))),)
        self.assertEqual(self.back(BOTH[:1], counter), ("left", (0,), (0,)))
        # From (y, x) it goes over (x, y), from there over (x, x), and each time on to (x, x).
        counter = (("if", "a", "y", (("set", "b", "y"), ("set", "a", "x")), ()), ("set", "b", "x"))
        self.assertEqual(self.back(BOTH[:1], counter), ("back", (XX, XY, YX, YY)))

    def test_a_run_without_cuts_is_left_by_its_end(self):
        self.assertEqual(self.back((), ()), ("back", (XX,)))
        self.assertEqual(self.back((), BOTH[:1]), ("left", (0,), ()))
        self.assertEqual(self.back((("fail",),), (("fail",),)), ("left", (0,), ()))
        self.assertEqual(self.back((), (("set", "a", "x"),)), ("back", (XX,)))
        self.assertEqual(self.back((), BOTH + BOTH_BACK), ("back", (XX, XY, YX, YY)))

    def test_a_program_that_is_stopped_more_than_once(self):
        counter = (("if", "b", "y", (("fail",),), (("set", "a", "x"),)),)
        self.assertEqual(self.back(TWICE, counter), ("left", (0, 0), ()))

    def test_what_a_failed_run_leaves(self):
        program = (("set", "a", "y"), ("fail",), ("set", "b", "y"))
        self.assertEqual(self.back(program, (("set", "a", "x"),)), ("back", (XX, YX)))

    def test_the_least_numbers_and_counters_together(self):
        # Both (0, 0) of the program and (0), (0) of program and counter-program lead to (y, y).
        counter = (("if", "b", "y", (("fail",),), (("set", "b", "y"), ("set", "a", "x"), ("set", "b", "x"))),)
        self.assertEqual(self.back(TWICE, counter), ("left", (0,), (0,)))

    def test_words_where_the_counter_program_was_before_the_program(self):
        release = Release(text_of(cells=["cell a s u v z"]))
        further = ("if", "a", "u", (("set", "a", "s"), ("set", "a", "v")), (("set", "a", "z"),))
        program = (("if", "a", "s", (("set", "a", "u"),), (further,)),)
        failing = ("if", "a", "z", (("fail",),), (("set", "a", "s"),))
        counter = (("if", "a", "u", (("set", "a", "v"), ("set", "a", "s")), (failing,)),)
        self.assertEqual(back(release, program, counter, ("s",)), ("left", (0, 1, 0), ()))

    def test_against_a_plain_search(self):
        counters = some_programs(2, 3)
        for program, counter in itertools.product(some_programs(2, 1), counters):
            words = PAIR_WORDS[(len(program) + len(str(counter))) % 4]
            told = self.back(program, counter, words)
            self.assertEqual(told, self.plainly(program, counter, words), (program, counter, words))

    def plainly(self, program, counter, words):
        found = []
        some = set()
        for row, (start, _) in rows_of_cuts(self.release, program, (words, ()), 2):
            ends = [cut for cut, _ in cuts(self.release, program, start)]
            for number, left in enumerate(ends + [done(self.release, program, start)[0]]):
                numbers = row + (number,)
                for counters, (here, _) in rows_of_cuts(self.release, counter, (left, ()), 3):
                    some.add(here)
                    end, _, failed = done(self.release, counter, here)
                    if failed or end != words:
                        found.append((len(numbers + counters), numbers + counters, len(numbers)))
        if not found:
            return "back", tuple(sorted(some))
        _, numbers, many = min(found)
        return "left", numbers[:many], numbers[many:]


class Shows(unittest.TestCase):

    def setUp(self):
        self.release = Release(PAIR)

    def shows(self, program, counter, value, words=XX):
        told = shows_back(self.release, program, counter, words, value)
        self.assertIs(told.__class__, bool)
        return told

    def test_just_the_words_from_which_it_may_have_to_run(self):
        self.assertTrue(self.shows(BOTH, BOTH_BACK, ("back", (XX, XY, YX, YY))))
        for some in ((), (XX, YX, YY), (XY, XX, YX, YY), (XX, XY, YX, YY, YY), [XX, XY, YX, YY]):
            self.assertFalse(self.shows(BOTH, BOTH_BACK, ("back", some)), some)
        self.assertFalse(self.shows(BOTH, BOTH_BACK, ("left", (XX, XY, YX, YY))))

    def test_words_of_what_is_not_taken_back(self):
        self.assertFalse(self.shows(BOTH, (), ("back", (YX, YY))))
        self.assertFalse(self.shows(BOTH, (), ("back", (0,), ())))

    def test_numbers_of_any_size(self):
        for numbers in ((0,), (1,), (2,), (0, 0), (1, 2), (0, 1, 0, 1, 2), (1,) * 300):
            self.assertTrue(self.shows(BOTH, (), ("left", numbers, ())), numbers)

    def test_the_end_stands_last_alone(self):
        self.assertTrue(self.shows(BOTH, (), ("left", (2,), ())))
        for numbers in ((2, 0), (2, 2), (0, 2, 1), (3,), (0, 3)):
            self.assertFalse(self.shows(BOTH, (), ("left", numbers, ())), numbers)

    def test_the_end_of_a_run_without_cuts(self):
        self.assertTrue(self.shows((), BOTH, ("left", (0,), ())))
        for numbers in ((), (1,), (0, 0)):
            self.assertFalse(self.shows((), BOTH, ("left", numbers, ())), numbers)

    def test_one_number_or_more(self):
        self.assertFalse(self.shows(BOTH, (), ("left", (), ())))
        self.assertFalse(self.shows(BOTH, BOTH, ("left", (), (0,))))

    def test_counters_are_cuts_and_no_end(self):
        counter = (("wake", "t"), ("set", "a", "x"))
        for counters in ((), (0,), (1,), (0, 0), (1, 1), (0,) * 300):
            self.assertTrue(self.shows(BOTH, counter, ("left", (1,), counters)), counters)
        for counters in ((2,), (0, 2), (2, 0), (-1,), (10 ** 30,)):
            self.assertFalse(self.shows(BOTH, counter, ("left", (1,), counters)), counters)

    def test_numbers_behind_which_it_is_taken_back(self):
        for numbers, counters in itertools.product(((0,), (1,), (2,), (0, 1)), ((), (0,), (1,), (0, 1))):
            self.assertFalse(self.shows(BOTH, BOTH_BACK, ("left", numbers, counters)))
        only = (("if", "b", "y", (("fail",),), (("set", "a", "x"),)),)
        self.assertFalse(self.shows(BOTH, only, ("left", (0,), ())))
        self.assertTrue(self.shows(BOTH, only, ("left", (1,), ())))

    def test_numbers_of_other_kinds(self):
        wrong = ((True,), (False,), [0], ("0",), (None,), ((0,),), ([0],), 0, False, None, "0", {0: 0}, (-1,), (0, -1))
        for numbers in wrong:
            self.assertFalse(self.shows(BOTH, (("wake", "t"),), ("left", numbers, ())), numbers)
            self.assertFalse(self.shows(BOTH, (("wake", "t"),), ("left", (0,), numbers)), numbers)

    def test_right_evidence_bent(self):
        for value in bent(("back", (XX, XY, YX, YY))):
            self.assertFalse(self.shows(BOTH, BOTH_BACK, value), value)
        for value in bent(("left", (0,), ())):
            right = value in (("left", (0, 0), ()), ("left", (0,), (0,)))
            self.assertEqual(self.shows(BOTH, (), value), right, value)

    def test_any_values(self):
        for value in ANY_VALUES:
            for counter in ((), BOTH_BACK):
                wrong = (
                    value, ("back", value), ("left", value, ()), (value, (0,), ()), (value, (0,)),
                    ("left", (value,), ()), ("left", (0,), (value,)),
                    ("left", (0,), (), value), ("back", (XX, XY, YX, YY), value), ("left",),
                )
                for bad in wrong:
                    # The numbers 0 and 1 are right ones where nothing is taken back.
                    right = counter == () and value.__class__ is int and bad in (("left", (0,), ()), ("left", (1,), ()))
                    self.assertEqual(self.shows(BOTH, counter, bad), right, bad)

    def test_against_a_plain_search(self):
        for program, counter in itertools.product(some_programs(2, 9), some_programs(2, 9)):
            for row in itertools.product(range(3), repeat=2):
                for many in range(3):
                    value = ("left", row[:many], row[many:])
                    self.assertEqual(self.shows(program, counter, value), self.is_left(program, counter, value), value)

    def is_left(self, program, counter, value):
        _, numbers, counters = value
        words = XX
        for place, number in enumerate(numbers):
            there = [cut for cut, _ in cuts(self.release, program, words)]
            if place == len(numbers) - 1:
                there.append(done(self.release, program, words)[0])
            if number >= len(there):
                return False
            words = there[number]
        for number in counters:
            there = [cut for cut, _ in cuts(self.release, counter, words)]
            if number >= len(there):
                return False
            words = there[number]
        end, _, failed = done(self.release, counter, words)
        return numbers != () and (failed or end != XX)


class Refusals(unittest.TestCase):

    def test_the_program_then_the_counter_then_the_words(self):
        release = Release(PAIR)
        for value in ANY_VALUES + [(("set", "a", "z"),), [("fail",)], ("fail",)]:
            wrong = []
            if value != ():
                wrong += [(BadProgram, value, None, None), (BadProgram, (), value, None)]
            if value != XX:
                wrong += [(BadWords, (), (), value)]
            for error, program, counter, words in wrong:
                with self.assertRaises(error) as caught:
                    back(release, program, counter, words)
                self.assertIs(caught.exception.value, value)
                for shown in (("back", ()), ("left", (0,), ()), None):
                    with self.assertRaises(error) as caught:
                        shows_back(release, program, counter, words, shown)
                    self.assertIs(caught.exception.value, value)


if __name__ == "__main__":
    unittest.main()
