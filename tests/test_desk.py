"""Section 16: what is said to a desk, and what it answers."""

import unittest

from scriptsamid.desk import Desk
from scriptsamid.errors import (
    BadChoice, BadLine, BadRelease, BadStop, Busy, Doubled, Endless, Failed, Idle, NoCell, NoProgram, NoSet, NotLater,
    NotLet, NoWord, RingOfNeeds, ScriptError, TooLarge, TooMany, Unnamed,
)
from scriptsamid.forms import RESERVED
from scriptsamid.houses import House
from scriptsamid.texts import show_house, show_run
from scriptsamid.trains import why_not
from rows import BELL, HOME, OVER, OWN, SAME, SHUT, START, row_of, state
from samples import ANY_VALUES, WEB, XX, edition, package, text_of

# To both, the orders part; to last, some fail; to loop, t wakes itself for ever.
WIDE = row_of(
    [
        package("p", edition(programs=[("behind", "set a y"), ("back behind", "copy a to b", "set a x")]),
                edition(programs=[("behind", "if a = x", "  fail"), ("before", "copy a to b", "set a y")])),
        package("q", edition(programs=[("behind", "copy a to b")]), edition(programs=[("behind", "wake t", "set a x")]),
                triggers=[("t", "wake t", "copy b to a", "set b y")]),
    ],
    "set both p 1 q 1", "set last p 2 q 2", "set loop q 2",
)


def said(release, *lines):
    """A desk to which lines were said."""
    desk = Desk(release.text)
    for line in lines:
        desk.say(line)
    return desk


class Made(unittest.TestCase):

    def test_a_house_of_the_first_set_with_the_first_words(self):
        for release, name, words in ((HOME, "none", START), (OWN, "none", ("x", "x", "x"))):
            house = Desk(text=release.text).house
            self.assertIsInstance(house, House)
            self.assertEqual((house.release, house.name, house.words, house.history), (release, name, words, ()))
        self.assertEqual(Desk(WEB).house.words, ("off", "none", "light"))

    def test_refused_as_the_release_is(self):
        good = text_of()
        for value in ANY_VALUES:
            with self.assertRaises(BadRelease) as caught:
                Desk(value)
            self.assertEqual(caught.exception.value, 0)
        ring = text_of(packages=["package p", "  edition 1", "    needs q", "package q", "  edition 1", "    needs p"])
        large = text_of(cells=[f"cell {name} x y z" for name in "abcd"])
        lines = edition(programs=[(name, "fail") for name in ("before", "behind")])
        many = row_of([package(name, lines) for name in "pq"], "set one p 1 q 1").text.replace("p 1 q 1", "p 1 q 1 r 1")
        many = many.replace("set none", "\n".join([*package("r", lines), "set none"]))
        for text, error, value in (
            (good + "\n", BadRelease, 5), (text_of(sets=["set none", "set none"]), Doubled, 5),
            (text_of(sets=["set none", "set one p 2"]), Unnamed, 5), (large, TooLarge, 81), (many, TooMany, 9),
        ):
            with self.assertRaises(error) as caught:
                Desk(text)
            self.assertEqual(caught.exception.value, value)
        with self.assertRaises(RingOfNeeds):
            Desk(ring)


class Deeds(unittest.TestCase):

    def test_the_example(self):
        desk = Desk('cell a x y\npackage p\n  edition 1\n    lays a y\nset none\nset one p 1')
        lines = ['let none one', 'upgrade one', 'choices', 'begin p.lay stop 0', 'choices', 'again', 'words']
        answers = ['yes', 'done', 'begin p.lay, turn', 'done', 'again, back', 'over one', 'y']
        self.assertEqual([desk.say(line) for line in lines], answers)

    def test_done_and_over(self):
        desk = Desk(HOME.text)
        for line, answer in (
            ("own c y", "done"), ("own c y", "done"), ("upgrade one", "done"), ("begin p.lay stop 0", "done"),
            ("back stop 0", "done"), ("back", "done"), ("begin p.lay", "done"), ("begin p.behind stop 0", "done"),
            ("again stop 0", "done"), ("again", "over one"), ("own d y", "done"), ("upgrade two", "done"),
            ("turn", "over one"), ("upgrade two", "done"), ("begin p.lay", "over two"), ("own c x", "done"),
        ):
            self.assertEqual(desk.say(line), answer, line)
        self.assertEqual((desk.house.name, desk.house.words), ("two", ("y", "x", "x", "y")))
        self.assertEqual(len(desk.house.history), 16)

    def test_over_with_the_elder_set(self):
        desk = said(HOME, "upgrade two")
        self.assertEqual(desk.say("turn"), "over none")
        self.assertEqual(desk.say("set"), "none")

    def test_over_at_once_without_steps(self):
        desk = said(SAME, "upgrade one", "begin p.lay")
        self.assertEqual(desk.say("upgrade more"), "over more")
        self.assertEqual(desk.house.history[-1], ("upgrade", "more"))

    def test_a_trigger(self):
        desk = said(BELL, "upgrade one", "begin p.lay", "begin p.behind")
        for line, answer in (
            ("choices", "turn, at t"), ("at t stop 1", "done"), ("choices", "again"), ("wise", "again"),
            ("again", "over one"), ("words", "y y"),
        ):
            self.assertEqual(desk.say(line=line), answer)

    def test_a_house_that_was_led_by_lines(self):
        desk = said(HOME, "own c y", "upgrade one", "begin p.lay stop 0", "again")
        text = "house none\nwords x x x x\nown c y\nupgrade one\nbegin p.lay stop 0\nagain"
        self.assertEqual(show_house(desk.house), text)


class Answers(unittest.TestCase):

    def test_words_and_set(self):
        desk = Desk(HOME.text)
        self.assertEqual((desk.say("words"), desk.say("set")), ("x x x x", "none"))
        desk.say("upgrade one")
        desk.say("begin p.lay")
        self.assertEqual((desk.say("words"), desk.say("set")), ("x y x x", "none"))
        desk.say("begin p.behind")
        self.assertEqual((desk.say("words"), desk.say("set")), ("x y x x", "one"))

    def test_choices_and_wise(self):
        desk = Desk(HOME.text)
        self.assertEqual((desk.say("choices"), desk.say("wise")), ("-", "-"))
        desk.say("upgrade one")
        self.assertEqual(desk.say("choices"), "begin p.lay, turn")
        self.assertIn(desk.say("wise"), ["begin p.lay", "turn"])
        desk.say("begin p.lay stop 0")
        self.assertEqual(desk.say("choices"), "again, back")
        self.assertIn(desk.say("wise"), ["again", "back"])
        desk.say("again")
        desk.say("turn")
        self.assertEqual((desk.say("choices"), desk.say("wise")), ("back", "back"))

    def test_wise_said_again_and_again(self):
        desk = said(HOME, "upgrade one", "begin p.lay")
        for _ in range(9):
            if desk.say("wise") != "-":
                desk.say(desk.say("wise"))
        self.assertIn((desk.say("set"), desk.say("words")), [("none", "x x x x"), ("one", "x y x x")])

    def test_kept(self):
        desk = Desk(OVER.text)
        self.assertEqual(desk.say("kept none"), "x x")
        self.assertEqual(desk.say("kept one"), "y x")
        self.assertEqual(desk.say("kept two"), "x x, y y")
        self.assertEqual(Desk(SHUT.text).say("kept one"), "-")
        self.assertEqual(Desk(WEB).say("kept second"), "fast b dark, fast b light")

    def test_let(self):
        self.assertEqual(Desk(OVER.text).say("let none two"), "yes")
        desk = Desk(SHUT.text)
        words, run = why_not(SHUT, "none", "one")
        self.assertEqual(desk.say("let none one"), f"no x x: {show_run(run)}")
        self.assertEqual(words, XX)
        self.assertEqual(desk.say("let none one"), "no x x: begin p.lay, begin p.behind stop 0, back, turn, back")
        self.assertEqual(desk.say("let one two"), "no")
        self.assertEqual(Desk(OWN.text).say("let none two"), "no x x y: -")

    def test_plain(self):
        desk = Desk(OVER.text)
        for sets, words in (("none one", "y x"), ("none two", "x x"), ("one two", "x x")):
            self.assertEqual(desk.say(f"plain {sets}"), words)
        # From the words of the house, also amid an upgrade, and also to an earlier set.
        desk = said(OVER, "upgrade one", "begin p.lay", "begin p.behind")
        for sets, words in (("none two", "y y"), ("one two", "y y"), ("one none", "y x")):
            self.assertEqual(desk.say(f"plain {sets}"), words)
        desk = said(HOME, "upgrade one", "begin p.lay")
        self.assertEqual(desk.say("plain none two"), "x y x x")
        self.assertEqual(desk.say("plain one one"), "x y x x")

    def test_orders(self):
        desk = Desk(WIDE.text)
        wanted = "parts p.lay q.lay p.behind q.behind: p.lay q.lay q.behind p.behind"
        self.assertEqual(desk.say("orders none both"), wanted)
        # q sets a, and p fails then.
        self.assertEqual(desk.say("orders none last"), "fails p.before p.lay q.lay q.behind p.behind")
        self.assertEqual(desk.say("orders none loop"), "one")
        self.assertEqual(desk.say("orders both none"), "one")
        self.assertEqual(desk.say("orders none none"), "one")
        fails = row_of([package("p", edition(programs=[("behind", "fail")]))], "set one p 1")
        self.assertEqual(Desk(fails.text).say("orders none one"), "fails p.lay p.behind")

    def test_fewest(self):
        desk = Desk(WIDE.text)
        self.assertEqual(desk.say("fewest none both"), "p.behind ahead of q.lay")
        self.assertEqual(desk.say("fewest none last"), "p.behind ahead of q.lay")
        self.assertEqual(desk.say("fewest none loop"), "-")
        parts = [package(name, edition(programs=[("behind", command)])) for name, command in
                 (("p", "set a y"), ("q", "copy a to b"), ("r", "copy b to c"))]
        cells = ("cell a x y", "cell b x y", "cell c x y")
        chain = row_of(parts, "set all p 1 q 1 r 1", cells=cells)
        wanted = "p.behind ahead of q.lay, q.behind ahead of r.lay"
        self.assertEqual(Desk(chain.text).say("fewest none all"), wanted)

    def test_from_the_words_of_the_house(self):
        desk = said(OWN, "own c y")
        self.assertEqual(desk.say("orders none two"), "fails q.before")
        self.assertEqual(desk.say("plain none one"), "y x y")
        with self.assertRaises(Failed):
            desk.say("fewest none two")
        desk.say("own c x")
        self.assertEqual((desk.say("orders none two"), desk.say("fewest none two")), ("one", "-"))

    def test_again(self):
        desk = Desk(WIDE.text)
        for line, answer in (
            ("again p 1 behind", "same"), ("again p 1 back behind", "same"), ("again p 2 before", "parts 1"),
            ("again p 2 behind", "same"), ("again p 1 gone", "same"), ("again q 0 at t", "parts 2"),
            ("again p 1 back leaves", "same"), ("again q 0 at u", "same"), ("again p 2 back before", "same"),
        ):
            self.assertEqual(desk.say(line), answer, line)

    def test_again_from_the_words_of_the_house(self):
        parts = [package("p", edition(lays=["a y"]), edition(programs=[("behind", "copy b to a", "set b y")]))]
        cells = ("cell a x y", "cell b x y own")
        desk = Desk(row_of(parts, "set one p 1", cells=cells).text)
        self.assertEqual(desk.say("again p 2 behind"), "parts 1")
        desk.say("own b y")
        self.assertEqual(desk.say("again p 2 behind"), "same")

    def test_again_with_more_than_one_number(self):
        # Run again once it comes to the same; twice, and it does not.
        commands = ["if a = x", "  set a y", "else", "  if a = y", "    set a z", "  else", "    set b y", "set b x"]
        parts = [package("p", edition(programs=[("behind", *commands[:-1], "set a x")]))]
        desk = Desk(row_of(parts, "set one p 1", cells=("cell a x y z", "cell b x y")).text)
        self.assertEqual(desk.say("again p 1 behind"), "parts 0 0")

    def test_names_that_are_commands(self):
        programs = [("before", "copy a to b", "set a y")]
        parts = [package("stop", edition(programs=programs), triggers=[("stop", "set a x")])]
        release = row_of(parts, "set stop stop 1")
        desk = Desk(release.text)
        self.assertEqual(desk.say("again stop 1 before"), "parts 1")
        self.assertEqual(desk.say("again stop 0 at stop"), "same")
        self.assertEqual(desk.say("kept stop"), "-")
        with self.assertRaises(Idle):
            desk.say("again stop 1")
        with self.assertRaises(NotLet):
            desk.say("upgrade stop")


class Refused(unittest.TestCase):

    def refused(self, desk, line, error, value):
        before = state(desk.house)
        with self.assertRaises(error) as caught:
            desk.say(line)
        self.assertIs(caught.exception.__class__, error)
        if error is BadLine:
            self.assertIs(caught.exception.value, line)
        else:
            self.assertEqual(caught.exception.value, value, line)
        self.assertEqual(state(desk.house), before)

    def test_lines_of_any_value(self):
        desk = Desk(HOME.text)
        for value in [*ANY_VALUES, ["words"], ("words",), b"words"]:
            if value.__class__ is not str or value not in ("set", "at t"):
                self.refused(desk, value, BadLine, value)

    def test_lines_that_are_of_no_form(self):
        forms = [
            "", " ", "word", "words ", " words", "words x", "Words", "set none", "sets", "choices 1", "choice",
            "wise turn", "kept", "kept none one", "kept None", "kept noneeeeee", "kept  none", "kept none ",
            "kept 1", "let", "let none", "let none one two", "let none One", "let none  one", "plain none",
            "plain none one two", "orders", "orders none", "orders none one two", "orders none onee1", "fewest none",
            "fewest", "fewest none one two", "own", "own c", "own c y y", "own C y", "own c yyyyyyyyy", "upgrade",
            "upgrade one two", "upgrade One", "upgrade one stop 0", "begin", "begin p", "begin p.lays",
            "begin p.lay stop", "begin p.lay stop 01", "begin p.lay stop 10000", "begin p.lay, turn", "turn stop -1",
            "turn turn", "back back", "again p", "again p 1", "again p 1 lay", "again p 1 back",
            "again p 1 back lay", "again p 1 back at t", "again p 1 at", "again p 0 at t u", "again p 01 before",
            "again p 10000 before", "again p x before", "again p -1 before", "again P 1 before", "again p 1  before",
            "again  p 1 before", "again p 1 before ", "again p 1 behind before", "again p 0 at T", "again p 0 at  t",
            "again p 0 at abcdefghi", "again ppppppppp 1 before", "again p stop 1", "again 1 p before", "at",
            "at t u", "at T", "stop", "house none", "words x x x x", "-", "words\n", "\nwords", "words\nwords",
            "turn\t",
        ]
        desks = [Desk(HOME.text), said(HOME, "upgrade one"), said(HOME, "upgrade one", "begin p.lay stop 0")]
        for desk in desks:
            for line in forms:
                self.refused(desk, line, BadLine, line)

    def test_deeds_as_the_house_refuses_them(self):
        desk = Desk(HOME.text)
        for line, error, value in (
            ("own a y", NoCell, "a"), ("own q y", NoCell, "q"), ("own own own", NoCell, "own"),
            ("own c z", NoWord, "z"),
            ("upgrade nowhere", NoSet, "nowhere"), ("upgrade none", NotLater, ("none", "none")), ("again", Idle, None),
            ("begin p.lay", Idle, None), ("turn stop 0", Idle, None), ("at t", Idle, None),
            ("upgrade set", NoSet, "set"),
        ):
            self.refused(desk, line, error, value)
        desk.say("upgrade one")
        for line, error, value in (
            ("own c y", Busy, None), ("own a y", Busy, None), ("upgrade nowhere", Busy, None),
            ("again", BadChoice, ("again",)),
            ("begin p.behind", BadChoice, ("begin", ("p", "behind"))), ("at t stop 5", BadChoice, ("at", "t")),
            ("begin p.lay stop 1", BadStop, 1), ("turn stop 0", BadStop, 0), ("begin p.lay stop 9999", BadStop, 9999),
            ("back", BadChoice, ("back",)), ("begin at.gone", BadChoice, ("begin", ("at", "gone"))),
        ):
            self.refused(desk, line, error, value)
        self.refused(Desk(SHUT.text), "upgrade one", NotLet, why_not(SHUT, "none", "one"))

    def test_sets(self):
        desk = Desk(OVER.text)
        for word in ("let", "plain", "orders", "fewest"):
            self.refused(desk, f"{word} nowhere none", NoSet, "nowhere")
            self.refused(desk, f"{word} none nowhere", NoSet, "nowhere")
            self.refused(desk, f"{word} here there", NoSet, "here")
            for name in RESERVED:
                self.refused(desk, f"{word} none {name}", NoSet, name)
        self.refused(desk, "kept nowhere", NoSet, "nowhere")
        for name in RESERVED:
            self.refused(desk, f"kept {name}", NoSet, name)
        for elder, newer in (("one", "none"), ("one", "one"), ("two", "one")):
            self.refused(desk, f"let {elder} {newer}", NotLater, (elder, newer))
            desk.say(f"plain {elder} {newer}")
            desk.say(f"fewest {elder} {newer}")

    def test_as_the_functions_refuse(self):
        desk = Desk(WIDE.text)
        self.refused(desk, "plain none loop", Endless, ("t",))
        fails = row_of([package("p", edition(programs=[("behind", "fail")]))], "set one p 1")
        for word in ("plain", "fewest"):
            self.refused(Desk(fails.text), f"{word} none one", Failed, ("p", "behind"))
        bell = row_of([package("p", edition(programs=[("behind", "wake t")]), triggers=[("t", "fail")])], "set one p 1")
        self.refused(Desk(bell.text), "plain none one", Failed, "t")

    def test_no_program(self):
        desk = Desk(WIDE.text)
        for line, value in (
            ("again p 0 before", ("p", 0, "before")), ("again p 3 before", ("p", 3, "before")),
            ("again r 1 before", ("r", 1, "before")), ("again q 1 at t", ("q", 1, "at t")),
            ("again q 9999 at t", ("q", 9999, "at t")), ("again set 1 before", ("set", 1, "before")),
            ("again p 0 back gone", ("p", 0, "back gone")), ("again r 0 at t", ("r", 0, "at t")),
            *[(f"again p 0 at {name}", ("p", 0, f"at {name}")) for name in RESERVED],
        ):
            self.refused(desk, line, NoProgram, value)

    def test_all_errors_are_those_of_the_package(self):
        desk = Desk(HOME.text)
        for line in ("nonsense", "own a y", "upgrade nowhere", "turn", "again p 9 before", None):
            with self.assertRaises(ScriptError):
                desk.say(line)
        self.assertEqual(desk.house.history, ())


if __name__ == "__main__":
    unittest.main()
