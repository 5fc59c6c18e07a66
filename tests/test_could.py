"""Section 7: whether any counter-program could take a program back."""

import itertools
import unittest

from scriptsamid.back import could, shows_could
from scriptsamid.errors import BadProgram
from scriptsamid.programs import cuts, done
from scriptsamid.releases import Release
from samples import ANY_VALUES, PAIR, PAIR_WORDS, bent, rows_of_cuts, some_programs

XX, XY, YX, YY = PAIR_WORDS
SET = (("set", "a", "y"),)
SOMES = [some for many in range(5) for some in itertools.combinations(PAIR_WORDS, many)]


class Could(unittest.TestCase):

    def setUp(self):
        self.release = Release(PAIR)

    def could(self, program, some):
        told = could(self.release, program, some)
        self.assertTrue(shows_could(self.release, program, some, told))
        return told

    def test_none(self):
        for program in ((), SET, (("fail",),)):
            self.assertEqual(self.could(program, ()), ("table", ()))

    def test_one(self):
        program = (("set", "a", "y"), ("set", "b", "y"), ("fail",))
        self.assertEqual(self.could(program, (XX,)), ("table", ((YX, XX), (YY, XX))))
        # A run without cuts leaves the words as they were.
        for program in ((), (("fail",),)):
            self.assertEqual(self.could(program, (XY,)), ("table", ((XY, XY),)))

    def test_what_runs_behind_a_stop_leave_counts(self):
        program = (("if", "a", "y", (("set", "b", "y"),), (("set", "a", "y"),)),)
        self.assertEqual(self.could(program, (XX,)), ("table", ((YX, XX), (YY, XX))))
        self.assertEqual(self.could(program, (XX, XY)), ("clash", XX, XY, YY))

    def test_some(self):
        self.assertEqual(self.could(SET, (XX, XY)), ("table", ((YX, XX), (YY, XY))))
        self.assertEqual(self.could(SET, (XX, YX)), ("clash", XX, YX, YX))
        self.assertEqual(self.could(SET, (YX, YY)), ("table", ((YX, YX), (YY, YY))))

    def test_all(self):
        self.assertEqual(self.could((), tuple(PAIR_WORDS)), ("table", tuple([(words, words) for words in PAIR_WORDS])))
        self.assertIn(self.could(SET, tuple(PAIR_WORDS)), [("clash", XX, YX, YX), ("clash", XY, YY, YY)])

    def test_against_a_plain_search(self):
        for program, some in itertools.product(some_programs(2, 1), SOMES):
            told = self.could(program, some)
            left = self.all_left(program, some)
            clashes = self.clashes(some, left)
            if clashes:
                self.assertIn(told, clashes)
            else:
                pairs = sorted((here, words) for words in some for here in left[words])
                self.assertEqual(told, ("table", tuple(pairs)))
            for value in clashes:
                self.assertTrue(shows_could(self.release, program, some, value))
                self.assertFalse(shows_could(self.release, program, some, ("clash", value[2], value[1], value[3])))

    def clashes(self, some, left):
        return [
            ("clash", one, other, here)
            for one, other in itertools.combinations(some, 2) for here in sorted(left[one] & left[other])
        ]

    def all_left(self, program, some):
        left = {words: set() for words in some}
        for words in some:
            for _, (start, _) in rows_of_cuts(self.release, program, (words, ()), 3):
                left[words].update(cut for cut, _ in cuts(self.release, program, start))
                left[words].add(done(self.release, program, start)[0])
        return left


class Shows(unittest.TestCase):

    def setUp(self):
        self.release = Release(PAIR)

    def shows(self, program, some, value):
        told = shows_could(self.release, program, some, value)
        self.assertIs(told.__class__, bool)
        return told

    def test_the_whole_table_and_just_this(self):
        pairs = ((YX, XX), (YY, XY))
        self.assertTrue(self.shows(SET, (XX, XY), ("table", pairs)))
        for wrong in ((), pairs[:1], pairs[::-1], pairs + pairs[1:], ((XX, YX), (XY, YY)), pairs + ((YY, YY),)):
            self.assertFalse(self.shows(SET, (XX, XY), ("table", wrong)), wrong)

    def test_a_table_where_words_clash(self):
        pairs = ((YX, XX), (YX, YX))
        self.assertFalse(self.shows(SET, (XX, YX), ("table", pairs)))
        self.assertFalse(self.shows(SET, (XX, YX), ("clash", pairs)))

    def test_clashes(self):
        # What only one of both leaves is no clash.
        for left in (YX, YY):
            self.assertFalse(self.shows(SET, (XX, XY), ("clash", XX, XY, left)))
        some = (XX, YX, YY)
        self.assertTrue(self.shows(SET, some, ("clash", XX, YX, YX)))
        wrong = [
            ("clash", YX, XX, YX), ("clash", XX, XX, YX), ("clash", XX, YY, YX), ("clash", XX, YX, XX),
            ("clash", XX, YX, YY), ("clash", XY, YY, YY), ("clash", YX, YY, YX), ("table", XX, YX, YX),
            ("clash", XX, YX), ("clash", XX, YX, YX, YX),
        ]
        for value in wrong:
            self.assertFalse(self.shows(SET, some, value), value)

    def test_right_evidence_bent(self):
        for value in bent(("clash", XX, YX, YX)):
            self.assertFalse(self.shows(SET, (XX, YX), value), value)
        for value in bent(("table", ((YX, XX), (YY, XY)))):
            self.assertFalse(self.shows(SET, (XX, XY), value), value)

    def test_any_values(self):
        for value in ANY_VALUES:
            wrong = [
                value, (value, XX, YX, YX), ("clash", value, YX, YX), ("clash", XX, value, YX),
                ("clash", value, value, YX), ("clash", XX, YX, value),
                (value, ()), ("table", value), ("table", (value,)), ("table", (), value),
            ]
            for bad in wrong:
                self.assertEqual(self.shows(SET, (XX, YX), bad), bad == ("clash", XX, YX, YX), bad)


class Refusals(unittest.TestCase):

    def test_the_program(self):
        release = Release(PAIR)
        for value in ANY_VALUES + [(("set", "a", "z"),), [("fail",)], ("fail",)]:
            if value != ():
                with self.assertRaises(BadProgram) as caught:
                    could(release, value, (XX,))
                self.assertIs(caught.exception.value, value)
                for shown in (("table", ()), ("clash", XX, YX, YX), None):
                    with self.assertRaises(BadProgram) as caught:
                        shows_could(release, value, (XX,), shown)
                    self.assertIs(caught.exception.value, value)


if __name__ == "__main__":
    unittest.main()
