"""Section 11: moments, the choices that there are at them, and what comes of these."""

import itertools
import unittest

from scriptsamid.errors import BadChoice, BadMoment, BadStop
from scriptsamid.runs import choices, chosen
import moving
from randoms import some_upgrades
from samples import ANY_VALUES, PARTS, PB, PL, QB, QL, XX, XY, YX, YY, bent, edition, package, upgrade_of

# All programs of p have cuts, its counter-programs too; that of lay of q has none. Package p comes, q comes too.
WHOLE = upgrade_of([
    package(
        "p", edition(lays=["a y"], programs=[
            ("before", "wake t", "set b y"), ("back before", "set b x", "wake u"),
            ("behind", "set a y", "if b = y", "  fail", "wake t"), ("back behind", "set a x", "fail"),
        ]),
        triggers=[("t", "set a y", "wake t"), ("u", "if a = x", "  fail", "set b y")],
    ),
    package("q", edition(programs=[("behind", "wake v")]), triggers=[("v", "set b x")]),
])
PF = ("p", "before")
# With p there is no q, and with q no p.
CHANGE = upgrade_of([
    package("p", edition(programs=[("behind", "wake t", "wake u")]), triggers=[("t", "set a y", "set b y")]),
    package("q", edition(programs=[("leaves", "wake u")]), triggers=[("u", "set a x")]),
], elder=["q 1"], newer=["p 1"])
NO_STEPS = upgrade_of([package("p", edition(), triggers=[("t", "wake t")])], elder=["p 1"], newer=["p 1"])


class Choices(unittest.TestCase):

    def test_at_first(self):
        self.assertEqual(choices(PARTS, (XX, (), (), None, "on")), (("begin", PL), ("begin", QL), ("turn",)))
        self.assertEqual(choices(WHOLE, (XX, (), (), None, "on")), (("begin", PF), ("begin", QL), ("turn",)))

    def test_on_with_steps_done(self):
        begin_both = (("begin", PB), ("begin", QB), ("turn",))
        self.assertEqual(choices(PARTS, (XX, (PL, QL), (), None, "on")), begin_both)
        self.assertEqual(choices(PARTS, (XX, (PL, QL), ("t", "u"), None, "on")), begin_both)
        self.assertEqual(choices(PARTS, (YX, (PL, PB), (), None, "on")), (("begin", QL), ("turn",)))
        self.assertEqual(choices(PARTS, (YX, (QL,), ("t",), None, "on")), (("begin", PL), ("begin", QB), ("turn",)))

    def test_on_with_all_steps_done(self):
        steps = PARTS.steps
        self.assertEqual(choices(PARTS, (YY, steps, (), None, "on")), ())
        self.assertEqual(choices(PARTS, (YY, steps, ("t",), None, "on")), (("turn",), ("at", "t")))
        self.assertEqual(choices(PARTS, (YY, steps, ("t", "u"), None, "on")), (("turn",), ("at", "t"), ("at", "u")))

    def test_turned(self):
        self.assertEqual(choices(PARTS, (XX, (), (), None, "turned")), ())
        self.assertEqual(choices(PARTS, (XX, (PL,), (), None, "turned")), (("back",),))
        self.assertEqual(choices(PARTS, (XX, PARTS.steps, ("t", "u"), None, "turned")), (("back",),))
        # The packages are not there by the elder set.
        self.assertEqual(choices(PARTS, (XX, (), ("t", "u"), None, "turned")), ())

    def test_triggers_by_the_set_that_counts(self):
        steps = CHANGE.steps
        self.assertEqual(choices(CHANGE, (XX, steps, ("t", "u"), None, "on")), (("turn",), ("at", "t")))
        self.assertEqual(choices(CHANGE, (XX, steps, ("u",), None, "on")), ())
        self.assertEqual(choices(CHANGE, (XX, (), ("t", "u"), None, "turned")), (("at", "u"),))
        self.assertEqual(choices(CHANGE, (XX, (), ("t",), None, "turned")), ())
        self.assertEqual(choices(CHANGE, (XX, (), ("t", "u"), None, "on"))[-1:], (("turn",),))

    def test_with_a_step_open(self):
        for way in ("on", "turned"):
            self.assertEqual(choices(PARTS, (XX, (PL,), ("t",), (PB, "cut"), way)), (("again",), ("back",)))
            self.assertEqual(choices(PARTS, (XX, (PL,), ("t",), (PB, "failed"), way)), (("back",),))
            self.assertEqual(choices(PARTS, (XX, (PL,), ("t",), (PB, "back"), way)), (("back",),))

    def test_with_a_trigger_open(self):
        steps = PARTS.steps
        self.assertEqual(choices(PARTS, (XX, steps, ("t", "u"), (("at", "t"), "cut"), "on")), (("again",),))
        self.assertEqual(choices(PARTS, (XX, steps, ("t", "u"), (("at", "t"), "failed"), "on")), ())
        self.assertEqual(choices(CHANGE, (XX, (), ("u",), (("at", "u"), "cut"), "turned")), (("again",),))
        self.assertEqual(choices(CHANGE, (XX, (), (), (("at", "u"), "failed"), "turned")), ())

    def test_without_steps(self):
        self.assertEqual(choices(NO_STEPS, (XX, (), (), None, "on")), ())
        self.assertEqual(choices(NO_STEPS, (XX, (), ("t",), None, "on")), (("turn",), ("at", "t")))
        self.assertEqual(choices(NO_STEPS, (XX, (), ("t",), None, "turned")), (("at", "t"),))
        self.assertEqual(choices(NO_STEPS, (XX, (), ("t",), (("at", "t"), "cut"), "turned")), (("again",),))

    def test_all_moments_that_runs_come_to(self):
        upgrades = [(upgrade, words) for upgrade in (PARTS, WHOLE, CHANGE, NO_STEPS) for words in (XX, XY, YX, YY)]
        for upgrade, words in itertools.chain(upgrades, some_upgrades(range(12))):
            for start in (moving.first(words), (words, upgrade.steps, (), None, "turned")):
                moves = moving.Map(upgrade, start).moves
                for moment in moves:
                    self.assertEqual(choices(upgrade, moment), tuple(moves[moment]))
                    for choice, results in moves[moment].items():
                        self.assertEqual(chosen(upgrade, moment, choice), results[0])
                        for number, result in enumerate(results[1:]):
                            self.assertEqual(chosen(upgrade, moment, choice, stop=number), result)


class Chosen(unittest.TestCase):

    def leads(self, upgrade, moment, choice, *results):
        """Checks what comes of a choice, without a stop and by the stops at all cuts."""
        told = chosen(upgrade, moment, choice)
        self.assertIsInstance(told, tuple)
        self.assertEqual(told, results[0])
        self.assertEqual(chosen(upgrade, moment, choice, stop=None), results[0])
        for number, result in enumerate(results[1:]):
            self.assertEqual(chosen(upgrade, moment, choice, stop=number), result)
        for stop in (len(results) - 1, -1, True, False, "0", (), [0], 10 ** 30):
            with self.assertRaises(BadStop) as caught:
                chosen(upgrade, moment, choice, stop=stop)
            self.assertIs(caught.exception.value, stop)

    def test_begin_ended_and_stopped(self):
        self.leads(
            WHOLE, (XX, (), (), None, "on"), ("begin", PF),
            (XY, (PF,), ("t",), None, "on"), (XX, (), ("t",), (PF, "cut"), "on"), (XY, (), ("t",), (PF, "cut"), "on"),
        )
        self.leads(WHOLE, (XX, (), ("u",), None, "on"), ("begin", QL), (XX, (QL,), ("u",), None, "on"))
        self.leads(
            WHOLE, (XX, (PF,), ("v",), None, "on"), ("begin", PL),
            (YX, (PF, PL), ("v",), None, "on"), (YX, (PF,), ("v",), (PL, "cut"), "on"),
        )

    def test_begun_steps_stand_in_the_told_order(self):
        told = chosen(PARTS, (XX, (QL, QB), (), None, "on"), ("begin", PL))
        self.assertEqual(told, (XX, (PL, QL, QB), (), None, "on"))

    def test_begin_failed(self):
        steps = (PF, PL, QL)
        self.leads(
            WHOLE, (XY, steps, ("t",), None, "on"), ("begin", PB),
            (YY, steps, ("t",), (PB, "failed"), "on"), (YY, steps, ("t",), (PB, "cut"), "on"),
        )

    def test_again_on_a_step(self):
        opened = (PB, "cut")
        self.leads(
            WHOLE, (XX, (PF, PL), ("u",), opened, "on"), ("again",),
            (YX, (PF, PL, PB), ("t", "u"), None, "on"), (YX, (PF, PL), ("u",), opened, "on"),
            (YX, (PF, PL), ("t", "u"), opened, "on"),
        )
        self.leads(
            WHOLE, (XY, (PF, PL), ("t",), opened, "on"), ("again",),
            (YY, (PF, PL), ("t",), (PB, "failed"), "on"), (YY, (PF, PL), ("t",), opened, "on"),
        )
        # Nothing is taken out of woken, and the way stays.
        self.assertEqual(
            chosen(WHOLE, (XX, (), ("t", "u", "v"), (PF, "cut"), "turned"), ("again",)),
            (XY, (PF,), ("t", "u", "v"), None, "turned"),
        )

    def test_back_of_an_open_step(self):
        for word in ("cut", "failed", "back"):
            for way in ("on", "turned"):
                self.leads(
                    WHOLE, (YY, (QL,), ("t",), (PF, word), way), ("back",),
                    (YX, (QL,), ("t", "u"), None, way), (YX, (QL,), ("t",), (PF, "back"), way),
                    (YX, (QL,), ("t", "u"), (PF, "back"), way),
                )
                # Its counter-program fails behind its one command.
                self.leads(
                    WHOLE, (YY, (PF, PL), (), (PB, word), way), ("back",),
                    (XY, (PF, PL), (), (PB, "failed"), way), (XY, (PF, PL), (), (PB, "back"), way),
                )

    def test_back_of_a_done_step(self):
        self.leads(
            WHOLE, (YY, (PF,), ("t",), None, "turned"), ("back",),
            (YX, (), ("t", "u"), None, "turned"), (YX, (), ("t",), (PF, "back"), "turned"),
            (YX, (), ("t", "u"), (PF, "back"), "turned"),
        )
        # The last one in the told order, whatever was done last; it is done no more though it failed.
        self.leads(
            WHOLE, (YY, (PF, PL, PB), (), None, "turned"), ("back",),
            (XY, (PF, PL), (), (PB, "failed"), "turned"), (XY, (PF, PL), (), (PB, "back"), "turned"),
        )
        # A step without a counter-program is only done no more.
        self.leads(WHOLE, (YY, (QL, QB), ("v",), None, "turned"), ("back",), (YY, (QL,), ("v",), None, "turned"))
        self.leads(
            WHOLE, (YY, (PF, PL), (), None, "turned"), ("back",),
            (XY, (PF,), (), None, "turned"), (XY, (PF,), (), (PL, "back"), "turned"),
        )

    def test_turn(self):
        self.leads(PARTS, (XX, (PL,), ("t",), None, "on"), ("turn",), (XX, (PL,), ("t",), None, "turned"))
        self.leads(PARTS, (XX, (), (), None, "on"), ("turn",), (XX, (), (), None, "turned"))
        self.leads(PARTS, (XX, PARTS.steps, ("u",), None, "on"), ("turn",), (XX, PARTS.steps, ("u",), None, "turned"))

    def test_at_ended_and_stopped(self):
        # The trigger is woken no more, and then wakes itself.
        self.leads(
            WHOLE, (XX, WHOLE.steps, ("t", "v"), None, "on"), ("at", "t"),
            (YX, WHOLE.steps, ("t", "v"), None, "on"), (YX, WHOLE.steps, ("v",), (("at", "t"), "cut"), "on"),
            (YX, WHOLE.steps, ("t", "v"), (("at", "t"), "cut"), "on"),
        )
        self.leads(
            CHANGE, (YX, (), ("t", "u"), None, "turned"), ("at", "u"),
            (XX, (), ("t",), None, "turned"), (XX, (), ("t",), (("at", "u"), "cut"), "turned"),
        )

    def test_at_failed(self):
        self.leads(
            WHOLE, (XX, WHOLE.steps, ("t", "u"), None, "on"), ("at", "u"),
            (XX, WHOLE.steps, ("t",), (("at", "u"), "failed"), "on"),
        )

    def test_again_on_a_trigger(self):
        opened = (("at", "t"), "cut")
        self.leads(
            WHOLE, (XX, WHOLE.steps, ("v",), opened, "on"), ("again",),
            (YX, WHOLE.steps, ("t", "v"), None, "on"), (YX, WHOLE.steps, ("v",), opened, "on"),
            (YX, WHOLE.steps, ("t", "v"), opened, "on"),
        )
        # Woken once more while it is open, it stays so.
        self.assertEqual(
            chosen(CHANGE, (YY, (), ("u",), (("at", "u"), "cut"), "turned"), ("again",)),
            (XY, (), ("u",), None, "turned"),
        )
        self.assertEqual(
            chosen(WHOLE, (XX, WHOLE.steps, (), (("at", "u"), "cut"), "on"), ("again",)),
            (XX, WHOLE.steps, (), (("at", "u"), "failed"), "on"),
        )


class Refused(unittest.TestCase):

    def bad_moment(self, upgrade, value):
        for call in (
            lambda: choices(upgrade, value), lambda: chosen(upgrade, value, ("turn",)),
            lambda: chosen(upgrade, value, value, stop=value),
        ):
            with self.assertRaises(BadMoment) as caught:
                call()
            self.assertIs(caught.exception.value, value)

    def test_moments_of_any_value(self):
        for value in ANY_VALUES:
            self.bad_moment(PARTS, value)
            if value != XX:
                self.bad_moment(PARTS, (value, (), (), None, "on"))
            self.bad_moment(PARTS, (XX, (), (), None, value))
            if not isinstance(value, tuple) or value != ():
                self.bad_moment(PARTS, (XX, value, (), None, "on"))
                self.bad_moment(PARTS, (XX, (), value, None, "on"))
            if value is not None:
                self.bad_moment(PARTS, (XX, (), (), value, "on"))
            for opened in ((value, "cut"), (PL, value), (("at", value), "cut"), (("at", "t"), value)):
                self.bad_moment(PARTS, (XX, (), (), opened, "on"))
                self.bad_moment(PARTS, (XX, PARTS.steps, (), opened, "on"))
            self.bad_moment(PARTS, (XX, (PL, value), (), None, "on"))
            self.bad_moment(PARTS, (XX, (), ("t", value), None, "on"))
            self.bad_moment(PARTS, (XX, (), (), None, "on", value))

    def test_moments_bent(self):
        moments = [
            (XX, (PL, PB), ("t", "u"), (QL, "cut"), "on"), (XX, (PL, QL), (), None, "turned"),
            (XX, PARTS.steps, ("u",), (("at", "t"), "failed"), "on"),
        ]
        for moment in moments:
            choices(PARTS, moment)
            for value in bent(moment):
                # To leave out a step or a trigger is no fault where nothing hangs on it.
                if not moving.is_form(PARTS, value):
                    self.bad_moment(PARTS, value)

    def test_every_form(self):
        """All that can be put together, against the words of the document."""
        for upgrade in (PARTS, CHANGE, NO_STEPS):
            triggers = sorted(moving.homes(upgrade.release))
            rows = [row for many in range(4) for row in itertools.product(upgrade.steps, repeat=many)]
            rows += list(itertools.permutations(upgrade.steps))
            wakes = [row for many in range(3) for row in itertools.product(triggers, repeat=many)]
            targets = [*upgrade.steps, ("q", "gone"), *[("at", trigger) for trigger in [*triggers, "w"]], "t"]
            opened = [None, *itertools.product(targets, ("cut", "failed", "back", "on"))]
            rest = set(itertools.product(wakes[:2], opened)) | set(itertools.product(wakes, opened[:1]))
            good = 0
            for steps, (woken, held), way in itertools.product(rows, sorted(rest, key=repr), ("on", "turned", "back")):
                moment = (XX, steps, woken, held, way)
                if moving.is_form(upgrade, moment):
                    good += 1
                    choices(upgrade, moment)
                else:
                    with self.assertRaises(BadMoment):
                        choices(upgrade, moment)
            self.assertGreater(good, 5)

    def test_choices_of_any_value(self):
        first, end = moving.first(XX), (XX, (), (), None, "turned")
        others = [("begin", PB), ("begin", ("p", "gone")), ("begin",), ("again",), ("back",), ("at", "t"), ["turn"]]
        for value in [*ANY_VALUES, *others, ("turn", None), ("begin", PL, None), ("begin", list(PL)), "turn", PL]:
            for moment in (first, end):
                for stop in (None, 0, "x"):
                    with self.assertRaises(BadChoice) as caught:
                        chosen(PARTS, moment, value, stop=stop)
                    self.assertIs(caught.exception.value, value)
        with self.assertRaises(BadChoice):
            chosen(PARTS, end, ("turn",))
        with self.assertRaises(BadChoice):
            chosen(PARTS, (XX, (), (), (PL, "cut"), "on"), ("begin", QL))

    def test_stops_of_any_value(self):
        moment = (XX, (PL,), (), None, "on")
        for value in [*ANY_VALUES, 2]:
            if value is not None and (value.__class__ is not int or value != 0):
                with self.assertRaises(BadStop) as caught:
                    chosen(PARTS, moment, ("begin", PB), stop=value)
                self.assertIs(caught.exception.value, value)
            if value is not None:
                for choice in (("turn",), ("begin", QL)):
                    with self.assertRaises(BadStop) as caught:
                        chosen(PARTS, moment, choice, stop=value)
                    self.assertIs(caught.exception.value, value)


if __name__ == "__main__":
    unittest.main()
