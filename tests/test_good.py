"""Section 11: whether an upgrade goes well whatever is chosen, and runs that show the contrary."""

import itertools
import unittest

from scriptsamid.errors import BadWords, Endless, Failed
from scriptsamid.orders import plain
from scriptsamid.releases import Release
from scriptsamid.runs import choices, chosen, good, shows_bad
from scriptsamid.upgrades import Upgrade
import moving
from randoms import some_upgrades
from samples import (
    ANY_VALUES, BAD, FAILING, LAID, LOOPING, PARTS, PB, PL, QB, QL, STUCK, TWICE, UNTAKEN, XX, XY, YX, YY, bent,
    edition, one_of, package, pair_of, town_upgrades, upgrade_of,
)


def run_of(*parts):
    """A run; each choice stands alone, or in a pair with its stop."""
    return tuple((part[0], part[1]) if isinstance(part[0], tuple) else (part, None) for part in parts)


BEGUN = [("begin", PL), ("begin", PB)]
# In UNTAKEN, turned while its one program was stopped and not taken back.
TURNED = [("begin", PL), (("begin", PB), 0), ("back",), ("turn",), ("back",)]


class Good(unittest.TestCase):

    def test_the_example(self):
        text = (
            'cell a x y\ncell b x y\npackage p\n  edition 1\n    behind\n      set a y\npackage q\n  edition 1\n    '
            'behind\n      copy a to b\nset none\nset all p 1 q 1'
        )
        upgrade = Upgrade(Release(text), 'none', 'all')
        wanted = run_of(("begin", PL), ("begin", QL), ("begin", QB), ("begin", PB))
        self.assertEqual(good(upgrade, ('x', 'x')), wanted)

    def test_good(self):
        self.assertIsNone(good(LAID, XX))
        self.assertIsNone(good(upgrade_of([package("p", edition(lays=["a y"]))], newer=["p 1"]), XX))
        self.assertIsNone(good(upgrade_of([package("p", edition(lays=["a y"]))], elder=["p 1"], newer=[]), YY))
        self.assertIsNone(good(upgrade_of([package("p", edition())], newer=[]), XY))
        self.assertIsNone(good(UNTAKEN, YX))

    def test_from_other_words_what_is_taken_back_is_left(self):
        self.assertEqual(good(LAID, YX), run_of(("begin", PL), ("turn",), ("back",)))
        self.assertEqual(good(LAID, XY), run_of(*TURNED))

    def test_where_plain_raises(self):
        for upgrade in (BAD, FAILING):
            self.assertEqual(good(upgrade, XX), ())
        self.assertEqual(good(one_of(["wake t"], [], ("t", "fail")), XX), ())
        self.assertEqual(good(one_of(["wake t"], [], ("t", "wake t")), XX), ())
        self.assertIs(good(one_of(["wake t"], [], ("t", "fail")), XX).__class__, tuple)

    def test_an_end_that_is_turned(self):
        # Behind all steps it is over, so it is stopped in the last one.
        self.assertEqual(good(UNTAKEN, XX), run_of(*TURNED))

    def test_an_end_on_the_way_on(self):
        # Stopped behind its first cut and run again, the program leaves other words.
        upgrade = one_of(["copy a to b", "set a y"], ["set a x", "set b x"])
        self.assertEqual(good(upgrade, XX), run_of(("begin", PL), (("begin", PB), 1), ("again",)))

    def test_a_program_that_fails_and_its_counter_program(self):
        failing = ["set b y", "if a = x", "  fail"]
        parts = [
            package("p", edition(programs=[("behind", "set a y"), ("back behind", "set a x")])),
            package("q", edition(programs=[("behind", *failing), ("back behind", "set b x")])),
        ]
        self.assertIsNone(good(upgrade_of(parts), XX))
        parts[1] = package("q", edition(programs=[("behind", *failing), ("back behind", "set b x", "fail")]))
        # From here no choices lead to an end: it is open, and is never taken back.
        self.assertEqual(good(upgrade_of(parts), XX), run_of(("begin", QL), ("begin", QB)))

    def test_a_moment_without_a_way_to_an_end(self):
        for upgrade, run in ((STUCK, [*BEGUN, (("at", "t"), 0)]), (LOOPING, [*BEGUN, ("turn",)])):
            moves = moving.Map(upgrade, moving.first(XX))
            # No end is bad, but there are moments from which none is reached.
            self.assertEqual(moves.ends, moves.goals(XX))
            self.assertEqual(good(upgrade, XX), run_of(*run))

    def test_choices_as_python_sorts_them(self):
        # Both runs have three choices; m is less than z by its letters, though z stands first in the told order.
        parts = [package(name, edition(programs=[("before", command)])) for name, command in
                 (("z", "set a y"), ("m", "set b y"))]
        upgrade = upgrade_of(parts, newer=["z 1", "m 1"])
        self.assertEqual(upgrade.steps[0], ("z", "before"))
        self.assertEqual(good(upgrade, XX), run_of(("begin", ("m", "before")), ("turn",), ("back",)))
        self.assertEqual(good(upgrade, XY), run_of(("begin", ("z", "before")), ("turn",), ("back",)))

    def test_no_stop_is_less_than_a_number(self):
        # Ended or stopped, what it did is not taken back.
        upgrade = upgrade_of([package("p", edition(programs=[("before", "set b x", "set a y")]))], newer=["p 1"])
        self.assertEqual(good(upgrade, XX), run_of(("begin", ("p", "before")), ("turn",), ("back",)))
        self.assertEqual(good(upgrade, XY), run_of(("begin", ("p", "before")), ("turn",), ("back",)))
        stopped = run_of((("begin", ("p", "before")), 0), ("back",), ("turn",))
        self.assertTrue(shows_bad(upgrade, XY, stopped))
        # Of two stops the lesser number.
        upgrade = one_of(["set a y", "copy a to b"], [])
        self.assertEqual(good(upgrade, XX), run_of(*TURNED))

    def test_triggers_when_turned(self):
        # The elder set has the package of the trigger, which is woken and stays so when the step is taken back.
        parts = [
            package("p", edition(programs=[("behind", "wake t")])),
            package("q", edition(), triggers=[("t", "set a y")]),
        ]
        upgrade = upgrade_of(parts, elder=["q 1"], newer=["p 1", "q 1"])
        run = run_of(*BEGUN, ("turn",), ("back",), ("back",), ("at", "t"))
        self.assertFalse(shows_bad(upgrade, XX, run[:-1]))
        self.assertTrue(shows_bad(upgrade, XX, run))
        # A stop behind the wake is as good as an end.
        self.assertEqual(good(upgrade, XX), run_of(*BEGUN, ("turn",), ("back",), ("back",), ("at", "t")))
        self.assertIsNone(good(upgrade, YX))

    def test_against_a_look_at_all_runs(self):
        found = {}
        upgrades = itertools.product((LAID, STUCK, TWICE, LOOPING, UNTAKEN), (XX, XY, YX, YY))
        for upgrade, words in itertools.chain(upgrades, town_upgrades(), some_upgrades(range(40))):
            told = good(upgrade, words)
            try:
                plain(upgrade, words)
            except (Failed, Endless):
                self.assertEqual(told, ())
                self.assertTrue(shows_bad(upgrade, words, ()))
                continue
            moves = moving.Map(upgrade, moving.first(words))
            runs = moves.first_runs()
            wanted = min([runs[moment] for moment in moves.bad(words)], key=moving.by_size, default=None)
            self.assertEqual(told, wanted)
            self.assertFalse(shows_bad(upgrade, words, ()))
            if told is not None:
                self.assertIs(shows_bad(upgrade, words, told), True)
            many = None if told is None else len(told)
            found[many] = found.get(many, 0) + 1
        self.assertGreater(found[None], 40)
        self.assertGreater(len(found), 4)

    def test_refused(self):
        for value in [*ANY_VALUES, list(XX), XX + ("x",), ("x", "z")]:
            if value != XX:
                for call in (
                    lambda: good(PARTS, value), lambda: shows_bad(PARTS, value, ()), lambda: shows_bad(PARTS, value, 0),
                    lambda: shows_bad(PARTS, value, run_of(("turn",))),
                ):
                    with self.assertRaises(BadWords) as caught:
                        call()
                    self.assertIs(caught.exception.value, value)
        with self.assertRaises(BadWords):
            good(BAD, ("x",))


class ShowsBad(unittest.TestCase):

    def shows(self, upgrade, value, words=XX):
        told = shows_bad(upgrade, words, value)
        self.assertIsInstance(told, bool)
        return told

    def test_runs_of_any_size(self):
        self.assertTrue(self.shows(UNTAKEN, run_of(*TURNED)))
        stopped = [(("begin", PB), 0), ("back",)]
        self.assertTrue(self.shows(UNTAKEN, run_of(("begin", PL), *stopped * 5, *TURNED[3:])))
        self.assertTrue(self.shows(UNTAKEN, run_of(*TURNED[:2], *[(("again",), 0)] * 30, *TURNED[2:])))
        self.assertTrue(self.shows(PARTS, run_of(("begin", QL), ("begin", QB), ("begin", PL), ("begin", PB))))

    def test_runs_that_are_not_bad(self):
        # To a good end, and to no end yet.
        for run in (BEGUN, [("turn",)], [("begin", PL), ("turn",), ("back",)], BEGUN[:1], TURNED[:4], TURNED[:2]):
            self.assertFalse(self.shows(UNTAKEN, run_of(*run)), run)
        self.assertFalse(self.shows(UNTAKEN, run_of(*TURNED), YX))
        # It was over behind all steps.
        self.assertFalse(self.shows(UNTAKEN, run_of(*BEGUN, ("turn",), ("back",), ("back",))))

    def test_a_run_is_judged_where_it_comes_to(self):
        run = run_of(*BEGUN, (("at", "t"), 0))
        self.assertTrue(self.shows(STUCK, run))
        self.assertTrue(self.shows(STUCK, run + run_of(("again",))))
        self.assertFalse(self.shows(STUCK, run + run_of(("again",), ("back",))))
        self.assertTrue(self.shows(TWICE, run))
        self.assertTrue(self.shows(TWICE, run + run_of(("again",))))
        # From here it comes to an end, which then is a bad one.
        self.assertFalse(self.shows(TWICE, run + run_of((("again",), 0))))
        self.assertTrue(self.shows(TWICE, run + run_of((("again",), 0), ("again",))))
        turned = [*BEGUN, ("turn",), ("back",), ("back",)]
        for many in range(4):
            self.assertTrue(self.shows(LOOPING, run_of(*turned, *[("at", "t"), (("at", "t"), 0), ("again",)] * many)))

    def test_the_run_without_choices(self):
        for upgrade in (BAD, FAILING, one_of(["wake t"], [], ("t", "wake t"))):
            self.assertTrue(self.shows(upgrade, ()))
        for upgrade in (PARTS, UNTAKEN, LAID, upgrade_of([package("p", edition())], newer=[])):
            self.assertFalse(self.shows(upgrade, ()))
            self.assertFalse(self.shows(upgrade, []))
        self.assertFalse(self.shows(BAD, []))

    def test_other_runs_where_plain_raises(self):
        # In another order no step fails, but there is no new end to come to.
        run = run_of(("begin", PL), ("begin", QL), ("begin", QB), ("begin", PB))
        self.assertTrue(self.shows(FAILING, run))
        self.assertFalse(self.shows(FAILING, run[:3]))
        self.assertFalse(self.shows(FAILING, run_of(("turn",))))
        self.assertFalse(self.shows(FAILING, run_of(("begin", PL), ("turn",), ("back",))))
        # An elder end is good or not as ever.
        self.assertTrue(self.shows(FAILING, run_of(*BEGUN, ("turn",), ("back",), ("back",))))
        self.assertFalse(self.shows(FAILING, run_of(*BEGUN, ("turn",), ("back",), ("back",)), YX))
        # It fails, and is taken back.
        self.assertFalse(self.shows(BAD, run_of(("begin", QL), ("begin", QB))))
        self.assertTrue(self.shows(one_of(["wake t"], [], ("t", "fail")), run_of(*BEGUN, ("at", "t"))))
        self.assertFalse(self.shows(one_of(["wake t"], [], ("t", "fail")), run_of(*BEGUN)))
        self.assertFalse(self.shows(one_of(["wake t"], [], ("t", "wake t")), run_of(*BEGUN, ("at", "t"))))

    def test_all_short_runs(self):
        failing = pair_of(["fail"], ["set a y"])
        for upgrade, many in ((UNTAKEN, 6), (STUCK, 6), (TWICE, 6), (LOOPING, 6), (PARTS, 4), (failing, 5)):
            bad = moving.Map(upgrade, moving.first(XX)).bad(XX)
            layer = [((), moving.first(XX))]
            shown = 0
            for _ in range(many):
                longer = []
                for run, moment in layer:
                    for choice in choices(upgrade, moment):
                        for stop in moving.stops(upgrade, moment, choice):
                            longer.append((run + ((choice, stop),), chosen(upgrade, moment, choice, stop=stop)))
                layer = longer
                for run, moment in layer:
                    self.assertEqual(self.shows(upgrade, run), moment in bad)
                    shown += moment in bad
            self.assertGreater(shown, 0)

    def test_what_is_no_run(self):
        run = good(UNTAKEN, XX)
        for value in bent(run):
            if value != run:
                self.assertFalse(self.shows(UNTAKEN, value), value)
        self.assertFalse(self.shows(UNTAKEN, run + run_of(("turn",))))
        for stop in (1, -1, True, False, "0", (), 10 ** 30):
            self.assertFalse(self.shows(UNTAKEN, run[:1] + ((("begin", PB), stop),) + run[2:]), stop)
        self.assertFalse(self.shows(UNTAKEN, run[:3] + ((("turn",), 0),) + run[4:]))
        self.assertFalse(self.shows(UNTAKEN, run_of(("begin", PB), ("turn",), ("back",))))

    def test_any_values(self):
        run = good(UNTAKEN, XX)
        for value in ANY_VALUES:
            wrong = [(value,), ((value, None),), run + (value,), run[:4] + ((value, None),)]
            wrong += [run[:4] + ((("back",), value),)] if value is not None else []
            if not isinstance(value, tuple) or value != ():
                wrong.append(value)
            for row in wrong:
                self.assertFalse(self.shows(UNTAKEN, row), row)
                self.assertFalse(self.shows(BAD, row), row)


if __name__ == "__main__":
    unittest.main()
