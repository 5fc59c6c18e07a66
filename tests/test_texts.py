"""Section 15: texts of words, runs and houses."""

import itertools
import random
import unittest

from scriptsamid.desk import Desk
from scriptsamid.errors import BadLine, BadText, ScriptError
from scriptsamid.forms import RESERVED
from scriptsamid.houses import House
from scriptsamid.programs import first_words
from scriptsamid.releases import Release
from scriptsamid.runs import good
from scriptsamid.texts import read_house, read_run, show_house, show_run, show_words
from scriptsamid.trains import kept, lets
from scriptsamid.upgrades import Upgrade
import moving
from randoms import some_release, some_upgrades
from rows import BELL, HOME, OVER, SHUT, START, state
from samples import ANY_VALUES, WEB, XX, YX

CHOICES = {
    "begin p.lay": ("begin", ("p", "lay")), "begin base.before": ("begin", ("base", "before")),
    "begin p.behind": ("begin", ("p", "behind")), "begin abcdefgh.leaves": ("begin", ("abcdefgh", "leaves")),
    "begin z.gone": ("begin", ("z", "gone")), "again": ("again",), "back": ("back",), "turn": ("turn",),
    "at index": ("at", "index"), "at stop": ("at", "stop"), "at t": ("at", "t"),
}
WRONG = [
    "", " ", "begin", "begin p", "begin p.", "begin .lay", "begin p lay", "begin p.lays", "begin p.Lay", "begin P.lay",
    "begin p..lay", "begin p.lay.lay", "begin p.back", "begin  p.lay", " begin p.lay", "begin p.lay ", "Begin p.lay",
    "begin abcdefghi.lay", "begin p1.lay", "begin p_.lay", "at", "at ", "at t u", "at T", "at abcdefghi", "at t.lay",
    "at 1", "again again", "agains", "back p.lay", "turn back", "turned", "stop 1", "stop", "- -", "--", "do turn",
    "again stop", "again stop ", "again stop x", "again stop 01", "again stop 00", "again stop 10000", "again stop -1",
    "again stop +1", "again stop 1.", "again stop 1 1", "again  stop 1", "again stop  1", "again stop1", "again 1",
    "again stop 1 stop 2", "at stop 1", "begin stop 1", "again\n", "again\t", "\nagain", "again stop 1\n",
]


class Words(unittest.TestCase):

    def test_words_with_one_blank_between(self):
        self.assertEqual(show_words(("off", "a", "light")), "off a light")
        self.assertEqual(show_words(("x",)), "x")
        self.assertEqual(show_words(words=("x", "y")), "x y")
        self.assertEqual(show_words(first_words(Release(WEB))), "off none light")


class Runs(unittest.TestCase):

    def test_the_example(self):
        text = (
            'cell a x y\ncell b x y\npackage p\n  edition 1\n    behind\n      set a y\npackage q\n  edition 1\n    '
            'behind\n      copy a to b\nset none\nset all p 1 q 1'
        )
        upgrade = Upgrade(Release(text), 'none', 'all')
        wanted = 'begin p.lay, begin q.lay, begin q.behind, begin p.behind'
        self.assertEqual(show_run(good(upgrade, ('x', 'x'))), wanted)

    def test_no_choices(self):
        self.assertEqual(show_run(()), "-")
        self.assertEqual(read_run("-"), ())
        self.assertIsInstance(read_run("-"), tuple)

    def test_each_choice_with_each_stop(self):
        for text, choice in CHOICES.items():
            self.assertEqual(show_run(((choice, None),)), text)
            self.assertEqual(read_run(text), ((choice, None),))
            for stop in (0, 1, 5, 10, 99, 100, 999, 1000, 9999):
                self.assertEqual(show_run(run=((choice, stop),)), f"{text} stop {stop}")
                told = read_run(text=f"{text} stop {stop}")
                self.assertEqual(told, ((choice, stop),))
                self.assertIs(told[0][1].__class__, int)

    def test_several_choices(self):
        for row in itertools.product(CHOICES, repeat=2):
            run = ((CHOICES[row[0]], None), (CHOICES[row[1]], 3), (("turn",), None))
            text = f"{row[0]}, {row[1]} stop 3, turn"
            self.assertEqual(show_run(run), text)
            self.assertEqual(read_run(text), run)

    def test_names_by_their_form(self):
        for name in [*RESERVED, "stop", "again", "turn", "abcdefgh", "a"]:
            run = ((("begin", (name, "lay")), 7), (("at", name), None), (("at", name), 0))
            self.assertEqual(read_run(f"begin {name}.lay stop 7, at {name}, at {name} stop 0"), run)
            self.assertEqual(read_run(show_run(run)), run)

    def test_what_was_written_is_read_back(self):
        tried = 0
        for upgrade, words in some_upgrades(range(60)):
            run = good(upgrade, words)
            if run is not None:
                self.assertEqual(read_run(show_run(run)), run)
                tried += 1
        self.assertGreater(tried, 50)

    def refused(self, value):
        with self.assertRaises(BadText) as caught:
            read_run(value)
        self.assertIs(caught.exception.value, value)

    def test_what_is_not_so_written(self):
        for text in WRONG:
            self.refused(text)
            self.refused(f"again, {text}")
            self.refused(f"{text}, again")
        others = ["again,back", "again , back", "again,  back", "again, ", ", again", "again, back,", "again; back"]
        for text in [*others, "again, -", "-, again", " -", "- ", "again,, back", "again\nback", "again, , back"]:
            self.refused(text)

    def test_any_values(self):
        for value in [*ANY_VALUES, ["again"], ("again",), ((("again",), None),), b"again"]:
            if value != "at t":
                self.refused(value)


class Houses(unittest.TestCase):

    def alike(self, house):
        """Checks that a house that is led by the text is as it was, and that all is written as it was."""
        text = show_house(house)
        other = read_house(house.release, text)
        self.assertIsInstance(other, House)
        self.assertEqual(state(other), state(house))
        self.assertEqual(show_house(other), text)
        return text

    def test_the_text_of_a_house(self):
        house = House(HOME, "none", START)
        self.assertEqual(self.alike(house), "house none\nwords x x x x")
        house.own("c", "y")
        house.own("c", "y")
        house.upgrade("one")
        house.do(("begin", ("p", "lay")), 0)
        lines = ["house none", "words x x x x", "own c y", "own c y", "upgrade one", "begin p.lay stop 0"]
        self.assertEqual(self.alike(house).split("\n"), lines)
        house.do(("again",))
        house.do(("begin", ("p", "behind")))
        house.upgrade("two")
        house.do(("turn",))
        lines += ["again", "begin p.behind", "upgrade two", "turn"]
        self.assertEqual(self.alike(house).split("\n"), lines)
        self.assertEqual(show_house(house=house), "\n".join(lines))

    def test_the_set_and_words_that_it_was_made_with(self):
        house = House(HOME, "one", ("y", "y", "x", "y"))
        house.own("d", "x")
        house.upgrade("two")
        house.do(("begin", ("p", "lay")))
        self.assertEqual(house.name, "two")
        self.assertEqual(self.alike(house), "house one\nwords y y x y\nown d x\nupgrade two\nbegin p.lay")

    def test_copies_are_written_too(self):
        house = House(HOME, "one", ("y", "y", "x", "y"))
        house.own("d", "x")
        with house.trial() as copy:
            copy.own("d", "y")
            self.assertEqual(self.alike(copy), "house one\nwords y y x y\nown d x\nown d y")
        self.assertEqual(house.tried(show_house), "house one\nwords y y x y\nown d x")

    def test_triggers(self):
        house = House(BELL, "none", XX)
        house.upgrade("one")
        for choice, stop in (("begin", ("p", "lay")), None), (("begin", ("p", "behind")), 0), (("again",), None):
            house.do(choice, stop)
            self.alike(house)
        house.do(("at", "t"), 1)
        self.assertEqual(self.alike(house).split("\n")[-1], "at t stop 1")

    def test_at_any_deed(self):
        dice = random.Random(8)
        amid = 0
        for number in range(80):
            release = some_release(number)
            for one, other in lets(release):
                house = House(release, release.sets[one], dice.choice(kept(release, release.sets[one])))
                house.own("c", dice.choice("xy"))
                house.upgrade(release.sets[other])
                for _ in range(6):
                    self.alike(house)
                    amid += house.moment is not None
                    if house.moment is not None:
                        choice = dice.choice(list(house.offers()))
                        upgrade = Upgrade(release, release.sets[one], release.sets[other])
                        house.do(choice, dice.choice(moving.stops(upgrade, house.moment, choice)))
        self.assertGreater(amid, 100)

    def test_of_a_desk(self):
        desk = Desk(WEB)
        for line in ("own look dark", "upgrade first", "begin base.lay", "upgrade second", "begin base.lay"):
            desk.say(line)
        deeds = "own look dark\nupgrade first\nbegin base.lay\nupgrade second\nbegin base.lay"
        text = f"house empty\nwords off none light\n{deeds}"
        self.assertEqual(show_house(desk.house), text)
        self.assertEqual(state(read_house(text=text, release=desk.house.release)), state(desk.house))


class Refused(unittest.TestCase):

    LINES = ["house none", "words x x x x", "own c y", "upgrade one", "begin p.lay stop 0", "again", "begin p.behind"]

    def refused(self, release, text, line):
        with self.assertRaises(BadLine) as caught:
            read_house(release, text)
        self.assertEqual(caught.exception.value, line, text)
        self.assertIs(caught.exception.value.__class__, int)

    def test_no_strings(self):
        for value in ANY_VALUES:
            if not isinstance(value, str):
                self.refused(HOME, value, 0)
        self.refused(HOME, self.LINES, 0)
        self.refused(HOME, b"house none", 0)

    def test_less_than_two_lines(self):
        self.refused(HOME, "house none", 1)
        self.refused(HOME, "house one", 1)
        self.refused(HOME, "", 0)
        self.refused(HOME, "words x x x x", 0)

    def test_the_first_line(self):
        read_house(HOME, "\n".join(self.LINES))
        for line in (
            "", "house", "house ", "house none none", " house none", "house none ", "house  none", "House none",
            "house None", "house nowhere", "house p", "house set", "set none", "house noneeeeee", "house none\t",
        ):
            self.refused(HOME, "\n".join([line] + self.LINES[1:]), 0)
            self.refused(HOME, line, 0)

    def test_the_second_line(self):
        for line in (
            "", "words", "words ", "words x x x", "words x x x x x", "words x x x x ", "words  x x x x",
            "words x x x X", "words x x x z", "words y x x x", "x x x x", "Words x x x x", "words x, x, x, x",
            "words x x x set", "own c y", " words x x x x",
        ):
            self.refused(HOME, "\n".join([self.LINES[0], line] + self.LINES[2:]), 1)
            self.refused(HOME, "\n".join([self.LINES[0], line]), 1)
        # No let upgrade leads here.
        for words in ("x x", "y x"):
            self.refused(SHUT, f"house one\nwords {words}", 1)
        read_house(SHUT, "house two\nwords x y")

    def test_deeds_that_are_not_so_written(self):
        others = [
            "own", "own c", "own c y y", "own  c y", "own c Y", "own c yyyyyyyyy", "upgrade", "upgrade one two",
            "upgrade One", " upgrade one", "upgrade one ", "words", "house none", "words x x x x", "choices", "wise",
            "again, back", "-", "own c y stop 0", "upgrade one stop 0", "do again", "set", "kept one",
        ]
        for number in range(2, len(self.LINES)):
            for line in [*WRONG, *others]:
                if "\n" not in line:
                    self.refused(HOME, "\n".join(self.LINES[:number] + [line]), number)
                    self.refused(HOME, "\n".join(self.LINES[:number] + [line] + self.LINES[number:]), number)

    def test_a_line_feed_at_the_end(self):
        for many in range(2, len(self.LINES) + 1):
            self.refused(HOME, "\n".join(self.LINES[:many]) + "\n", many)
        self.refused(HOME, "house none\n", 1)

    def test_deeds_that_are_refused(self):
        # By each error of a house, each at its line.
        for many, deeds in (
            (2, ["again", "own a y", "own q y", "own c z", "upgrade none", "upgrade nowhere", "turn stop 0"]),
            (4, ["own c y", "upgrade two", "again", "begin p.behind", "begin q.lay", "begin p.lay stop 1"]),
            (4, ["turn stop 0", "begin p.lay stop 9999", "upgrade none", "own a y"]),
            (5, ["turn", "begin p.lay", "again stop 1", "back stop 9999", "at t"]),
            (7, ["again", "upgrade one", "upgrade none", "own b y"]),
        ):
            for deed in deeds:
                self.refused(HOME, "\n".join(self.LINES[:many] + [deed]), many)
                self.refused(HOME, "\n".join(self.LINES[:many] + [deed, "nonsense"]), many)
        self.refused(SHUT, "house none\nwords x x\nupgrade one", 2)
        self.refused(SHUT, "house none\nwords x x\nupgrade one\n", 2)
        read_house(SHUT, "house none\nwords x x\nupgrade two")

    def test_the_first_of_several(self):
        self.refused(HOME, "house nowhere\nwords z", 0)
        self.refused(HOME, "house none\nwords z\nnonsense", 1)
        self.refused(HOME, "house none\nwords x x x x\nagain\nnonsense", 2)
        self.refused(HOME, "house none\nwords x x x x\nnonsense\nagain", 2)

    def test_of_another_release(self):
        text = show_house(House(OVER, "one", YX))
        with self.assertRaises(ScriptError):
            read_house(HOME, text)
        self.refused(HOME, text, 1)


if __name__ == "__main__":
    unittest.main()
