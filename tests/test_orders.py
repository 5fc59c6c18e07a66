"""Section 9: what the orders of an upgrade come to."""

import itertools
import unittest

from scriptsamid.errors import BadWords, Endless, Failed
from scriptsamid.orders import one_end, plain, shows_one_end, shows_some_order, some_order
from scriptsamid.releases import Release
from scriptsamid.upgrades import Upgrade
from samples import (
    ALIKE, ANY_VALUES, BAD, FAILING, PARTS, PB, PL, QB, QL, WAKING, WEB, XX, XY, YX, YY, bent, edition, numbered,
    package, pair_of, row_end, town_upgrades, upgrade_of,
)

def beginnings(upgrade):
    """All rows of steps as orders begin, by size."""
    orders = list(upgrade.orders())
    numbers = {tuple(upgrade.steps.index(step) for step in order[:many]) for order in orders for many in range(7)}
    rows = sorted(numbers, key=lambda row: (len(row), row))
    return [tuple(upgrade.steps[number] for number in row) for row in rows]


def in_told_order(upgrade, row):
    return tuple(step for step in upgrade.steps if step in row)


class Plain(unittest.TestCase):

    def triggers(self, upgrade, words=XX):
        """How plain refuses, as (name of the error, value)."""
        with self.assertRaises((Failed, Endless)) as caught:
            plain(upgrade, words)
        return caught.exception.__class__.__name__, caught.exception.value

    def waking(self, commands, triggers, newer=("p 1",), other=()):
        parts = [
            package("p", edition(programs=[("behind", *commands)]), triggers=triggers),
            package("q", edition(), triggers=other),
        ]
        return upgrade_of(parts, newer=newer)

    def test_the_told_order_alone(self):
        self.assertEqual(plain(PARTS, XX), YY)
        self.assertEqual(plain(upgrade_of([package("p", edition(lays=["b y"]))], newer=["p 1"]), XX), XY)
        release = Release(WEB)
        self.assertEqual(plain(Upgrade(release, "empty", "first"), ("off", "none", "dark")), ("off", "a", "dark"))

    def test_the_first_example(self):
        upgrade = Upgrade(Release(WEB), "empty", "second")
        self.assertEqual(plain(upgrade, ("off", "none", "light")), ("fast", "b", "light"))

    def test_without_steps_nothing_is_done(self):
        upgrade = Upgrade(Release(WEB), "second", "second")
        self.assertEqual(plain(upgrade, ("slow", "a", "dark")), ("slow", "a", "dark"))

    def test_the_least_woken_trigger_first(self):
        upgrade = self.waking(["wake u", "wake t"], [("u", "copy a to b"), ("t", "set a y")])
        self.assertEqual(plain(upgrade, XX), YY)
        upgrade = self.waking(["wake u", "wake t"], [("t", "copy a to b"), ("u", "set a y")])
        self.assertEqual(plain(upgrade, XX), YX)

    def test_triggers_that_wake_triggers(self):
        upgrade = self.waking(["wake u"], [("t", "set a y"), ("u", "wake t", "set b y")])
        self.assertEqual(plain(upgrade, XX), YY)
        upgrade = self.waking(["wake t"], [("t", "if a = x", "  set a y", "  wake t", "else", "  set b y")])
        self.assertEqual(plain(upgrade, XX), YY)

    def test_a_trigger_is_run_once_however_often_it_was_woken(self):
        upgrade = self.waking(["wake t", "wake t"], [("t", "if a = x", "  set a y", "else", "  set b y")])
        self.assertEqual(plain(upgrade, XX), YX)

    def test_a_trigger_whose_package_is_not_there(self):
        upgrade = self.waking(["wake t"], [], other=[("t", "set a y")])
        self.assertEqual(plain(upgrade, XX), XX)
        upgrade = self.waking(["wake t"], [], other=[("t", "set a y")], newer=["p 1", "q 1"])
        self.assertEqual(plain(upgrade, XX), YX)

    def test_a_trigger_of_a_package_that_goes_or_stays(self):
        parts = [
            package("p", edition(programs=[("leaves", "wake t")]), triggers=[("t", "set a y")]),
            package("q", edition(programs=[("leaves", "wake u")]), edition(), triggers=[("u", "set b y")]),
        ]
        self.assertEqual(plain(upgrade_of(parts, elder=["p 1", "q 1"], newer=["q 2"]), XX), XY)
        self.assertEqual(plain(upgrade_of(parts, elder=["p 1"], newer=[]), XX), XX)

    def test_a_trigger_whose_package_is_not_there_is_woken_by_triggers(self):
        upgrade = self.waking(["wake u"], [("u", "wake t", "set b y")], other=[("t", "fail")])
        self.assertEqual(plain(upgrade, XX), XY)

    def test_failed_with_the_step(self):
        self.assertEqual(self.triggers(FAILING), ("Failed", QB))
        self.assertEqual(self.triggers(BAD), ("Failed", QB))
        self.assertEqual(self.triggers(pair_of(["fail"], ["fail"])), ("Failed", PB))

    def test_failed_with_the_trigger(self):
        self.assertEqual(self.triggers(self.waking(["wake t"], [("t", "set a y", "fail")])), ("Failed", "t"))
        upgrade = self.waking(["wake u"], [("t", "fail"), ("u", "wake t")])
        self.assertEqual(self.triggers(upgrade), ("Failed", "t"))

    def test_endless(self):
        self.assertEqual(self.triggers(self.waking(["wake t"], [("t", "wake t")])), ("Endless", ("t",)))
        upgrade = self.waking(["wake u"], [("t", "wake u"), ("u", "wake t")])
        self.assertEqual(self.triggers(upgrade), ("Endless", ("t", "u")))

    def test_endless_tells_them_ascending(self):
        for one, other in itertools.permutations("tuv", 2):
            rest = next(name for name in "tuv" if name not in (one, other))
            upgrade = self.waking(
                [f"wake {rest}"], [(one, f"wake {other}"), (other, f"wake {rest}")],
                other=[(rest, f"wake {one}")], newer=["p 1", "q 1"],
            )
            self.assertEqual(self.triggers(upgrade), ("Endless", ("t", "u", "v")))

    def test_endless_tells_only_those_that_run_again_and_again(self):
        upgrade = self.waking(["wake t"], [("t", "wake u"), ("u", "wake u")])
        self.assertEqual(self.triggers(upgrade), ("Endless", ("u",)))
        upgrade = self.waking(["wake t", "wake u"], [("t", "wake t"), ("u", "set a y")])
        self.assertEqual(self.triggers(upgrade), ("Endless", ("t",)))

    def test_the_same_triggers_with_other_words_are_no_end_yet(self):
        upgrade = self.waking(["wake t"], [("t", "if a = x", "  set a y", "  wake t")])
        self.assertEqual(plain(upgrade, XX), YX)
        turning = ["if a = x", "  set a y", "else", "  set a x", "wake t"]
        self.assertEqual(self.triggers(self.waking(["wake t"], [("t", *turning)])), ("Endless", ("t",)))

    def test_against_the_told_order_step_by_step(self):
        for upgrade, words in town_upgrades():
            end = row_end(upgrade, words, upgrade.steps)
            if end is None:
                many = [row_end(upgrade, words, upgrade.steps[:many]) for many in range(7)].index(None)
                self.assertEqual(self.triggers(upgrade, words), ("Failed", upgrade.steps[many - 1]))
            elif end[1] == ():
                self.assertEqual(plain(upgrade, words), end[0])


class OneEnd(unittest.TestCase):

    def test_one(self):
        table = (
            ((), XX, ()), ((PL,), XX, ()), ((PL, PB), YX, ("u",)), ((PL, PB, QL), YX, ("u",)),
            ((PL, PB, QL, QB), YY, ("t", "u")), ((PL, QL), XX, ()), ((PL, QL, QB), XY, ("t",)), ((QL,), XX, ()),
            ((QL, QB), XY, ("t",)),
        )
        self.assertEqual(one_end(ALIKE, XX), ("one", table))
        self.assertEqual(one_end(pair_of(["set a y"], ["set b y"], newer=[]), XX), ("one", (((), XX, ()),)))

    def test_parts_by_words(self):
        self.assertEqual(one_end(PARTS, XX), ("parts", (PL, QL, PB, QB), (PL, QL, QB, PB)))
        self.assertEqual(one_end(PARTS, YX)[0], "one")

    def test_parts_by_wakes(self):
        self.assertEqual(one_end(WAKING, XX), ("parts", (PL, QL, PB, QB), (PL, QL, QB, PB)))

    def test_wakes_of_packages_that_are_not_there_part_too(self):
        upgrade = pair_of(["set a y"], ["if a = y", "  wake u"])
        parts = [
            package("p", edition(programs=[("behind", "set a y")])),
            package("q", edition(programs=[("behind", "if a = y", "  wake u")])),
            package("r", edition(), triggers=[("u", "fail")]),
        ]
        self.assertEqual(one_end(upgrade_of(parts), XX), one_end(upgrade, XX))

    def test_fails(self):
        self.assertEqual(one_end(FAILING, XX), ("fails", (PL, PB, QL, QB)))
        self.assertEqual(one_end(BAD, XX), ("fails", (QL, QB)))
        # Of the rows of one size the least.
        self.assertEqual(one_end(pair_of(["fail"], ["fail"]), XX), ("fails", (PL, PB)))

    def test_fails_ahead_of_parts(self):
        parts = [
            package("p", edition(programs=[("before", "set a y")])),
            package("q", edition(programs=[("before", "copy a to b"), ("behind", "if b = y", "  fail")])),
        ]
        told = one_end(upgrade_of(parts), XX)
        self.assertEqual(told, ("fails", (("p", "before"), ("q", "before"), QL, QB)))

    def test_against_a_plain_look_at_all_orders(self):
        kinds = set()
        for upgrade, words in town_upgrades():
            told = one_end(upgrade, words)
            kinds.add(told[0])
            self.assertEqual(told, self.plainly(upgrade, words))
            self.assertTrue(shows_one_end(upgrade, words, told))
        self.assertEqual(kinds, {"one", "fails", "parts"})

    def plainly(self, upgrade, words):
        rows = beginnings(upgrade)
        for row in rows:
            if row_end(upgrade, words, row) is None:
                return "fails", row
        for row in rows:
            other = row[:-2] + row[:-3:-1]
            if other in rows and row_end(upgrade, words, row) != row_end(upgrade, words, other):
                return "parts", row, other
        entries = {(numbered(upgrade, in_told_order(upgrade, row)), row_end(upgrade, words, row)) for row in rows}
        return "one", tuple(
            (tuple(upgrade.steps[number] for number in numbers), *end) for numbers, end in sorted(entries)
        )


class ShowsOneEnd(unittest.TestCase):

    def shows(self, upgrade, value, words=XX):
        told = shows_one_end(upgrade, words, value)
        self.assertIs(told.__class__, bool)
        return told

    def test_tables_just_so(self):
        table = one_end(ALIKE, XX)[1]
        self.assertTrue(self.shows(ALIKE, ("one", table)))
        self.assertFalse(self.shows(ALIKE, ("one", table), YX))
        self.assertFalse(self.shows(ALIKE, ("one", table[::-1])))
        for value in bent(("one", table[:4])):
            self.assertFalse(self.shows(ALIKE, value))
        for value in bent(("one", table)):
            self.assertFalse(self.shows(ALIKE, value))

    def test_no_table_where_orders_part_or_fail(self):
        for upgrade in (PARTS, FAILING):
            self.assertFalse(self.shows(upgrade, ("one", one_end(ALIKE, XX)[1])))
            self.assertFalse(self.shows(upgrade, ("one", one_end(upgrade, XX)[1])))

    def test_rows_that_fail(self):
        for row in ((PL, PB, QL, QB), (PL, QL, PB, QB), (QL, PL, PB, QB)):
            self.assertTrue(self.shows(FAILING, ("fails", row)), row)
        # Not the last one fails; it is no beginning of an order; a step is missing or doubled; a step ahead failed.
        for row in ((), (PL,), (PL, QL, QB), (QL, QB), (PB, QL, QB), (PL, PB, QB), (PL, PB, QL, QL), (QB,)):
            self.assertFalse(self.shows(FAILING, ("fails", row)), row)
        self.assertTrue(self.shows(BAD, ("fails", (QL, QB))))
        self.assertTrue(self.shows(BAD, ("fails", (QL, PL, PB, QB))))
        self.assertFalse(self.shows(BAD, ("fails", (QL, QB, PL))))
        upgrade = pair_of(["fail"], ["fail"])
        self.assertTrue(self.shows(upgrade, ("fails", (PL, QL, PB))))
        self.assertFalse(self.shows(upgrade, ("fails", (PL, QL, PB, QB))))

    def test_rows_that_part(self):
        one, other = (PL, QL, PB, QB), (PL, QL, QB, PB)
        self.assertTrue(self.shows(PARTS, ("parts", one, other)))
        self.assertTrue(self.shows(PARTS, ("parts", (QL, PL, PB, QB), (QL, PL, QB, PB))))
        self.assertTrue(self.shows(WAKING, ("parts", one, other)))
        wrong = [
            (other, one), (one, one), (one, (QL, PL, QB, PB)), (one[:2], other[:2]), ((PL, QL), (QL, PL)),
            ((PL, PB, QL, QB), (PL, PB, QB, QL)), ((PL, PB, QL, QB), other), ((PB, QB), (QB, PB)), ((), ()),
            (one + (PL,), other + (PL,)), (one[:3], other[:3]), ((PL,), (QL,)), (one + one[2:], one + other[2:]),
        ]
        for pair in wrong:
            self.assertFalse(self.shows(PARTS, ("parts", *pair)), pair)
        self.assertFalse(self.shows(PARTS, ("parts", one)))
        self.assertFalse(self.shows(PARTS, ("parts", one, other, other)))
        self.assertFalse(self.shows(PARTS, ("fails", one, other)))
        self.assertFalse(self.shows(ALIKE, ("parts", one, other)))

    def test_rows_that_part_do_not_fail_while_others_may(self):
        one, other = (PL, QL, PB, QB), (PL, QL, QB, PB)
        self.assertFalse(self.shows(FAILING, ("parts", one, other)))
        self.assertFalse(self.shows(pair_of(["if b = y", "  fail"], ["set b y"]), ("parts", one, other)))
        parts = [
            package("p", edition(programs=[("before", "set a y")])),
            package("q", edition(programs=[("before", "copy a to b")])),
            package("r", edition(programs=[("before", "fail")])),
        ]
        before = (("p", "before"), ("q", "before"))
        upgrade = upgrade_of(parts, newer=["p 1", "q 1", "r 1"])
        self.assertEqual(one_end(upgrade, XX), ("fails", (("r", "before"),)))
        self.assertTrue(self.shows(upgrade, ("parts", before, before[::-1])))
        self.assertFalse(self.shows(upgrade, ("parts", (("r", "before"), *before), (("r", "before"), *before[::-1]))))

    def test_against_a_plain_look(self):
        for upgrade in (PARTS, WAKING, FAILING, BAD, ALIKE):
            rows = beginnings(upgrade)
            for row in rows:
                fails = row_end(upgrade, XX, row) is None and row_end(upgrade, XX, row[:-1]) is not None
                self.assertEqual(self.shows(upgrade, ("fails", row)), fails)
            for row, other in itertools.product(rows, rows):
                ends = row_end(upgrade, XX, row), row_end(upgrade, XX, other)
                parts = (
                    None not in ends and ends[0] != ends[1] and numbered(upgrade, row) < numbered(upgrade, other)
                    and other == row[:-2] + row[:-3:-1]
                )
                self.assertEqual(self.shows(upgrade, ("parts", row, other)), parts)

    def test_right_evidence_bent(self):
        for upgrade in (PARTS, BAD):
            for value in bent(one_end(upgrade, XX)):
                self.assertFalse(self.shows(upgrade, value), value)

    def test_any_values(self):
        row = (PL, QL, PB, QB)
        for value in ANY_VALUES:
            wrong = (
                value, ("one", value), ("fails", value), ("fails", (value,)), ("fails", row[:3] + (value,)),
                (value, row), ("parts", value, value), ("parts", row, value), ("parts", value, row),
                (value, row, row[:2] + row[:1:-1]), ("one", (((), XX, ()), value)),
            )
            for upgrade in (PARTS, ALIKE, BAD):
                for bad in wrong:
                    self.assertFalse(self.shows(upgrade, bad), bad)


class SomeOrder(unittest.TestCase):

    def test_the_least_order_that_does_not_fail(self):
        self.assertEqual(some_order(ALIKE, XX), ("order", ALIKE.steps))
        self.assertEqual(some_order(FAILING, XX), ("order", (PL, QL, QB, PB)))
        self.assertEqual(some_order(pair_of(["set a y"], ["set b y"], newer=[]), XX), ("order", ()))

    def test_none(self):
        table = (
            ((), XX), ((PL,), XX), ((PL, PB), YX), ((PL, PB, QL), YX), ((PL, QL), XX), ((QL,), XX),
        )
        self.assertEqual(some_order(BAD, XX), ("none", table))

    def test_none_with_other_words_for_the_same_steps(self):
        upgrade = upgrade_of([
            package("p", edition(programs=[("before", "set a y")])),
            package("q", edition(programs=[("before", "copy a to b")])),
            package("r", edition(programs=[("before", "fail")])),
        ], newer=["p 1", "q 1", "r 1"])
        kind, table = some_order(upgrade, XX)
        steps = (("p", "before"), ("q", "before"))
        self.assertEqual(kind, "none")
        self.assertEqual([entry for entry in table if entry[0] == steps], [(steps, YX), (steps, YY)])

    def test_against_a_plain_look_at_all_orders(self):
        kinds = set()
        for upgrade, words in town_upgrades():
            told = some_order(upgrade, words)
            kinds.add(told[0])
            self.assertEqual(told, self.plainly(upgrade, words))
            self.assertTrue(shows_some_order(upgrade, words, told))
        self.assertEqual(kinds, {"order", "none"})

    def plainly(self, upgrade, words):
        for order in upgrade.orders():
            if row_end(upgrade, words, order) is not None:
                return "order", order
        entries = set()
        for row in beginnings(upgrade):
            end = row_end(upgrade, words, row)
            if end is not None:
                entries.add((numbered(upgrade, in_told_order(upgrade, row)), end[0]))
        return "none", tuple((tuple(upgrade.steps[number] for number in row), end) for row, end in sorted(entries))


class ShowsSomeOrder(unittest.TestCase):

    def shows(self, upgrade, value, words=XX):
        told = shows_some_order(upgrade, words, value)
        self.assertIs(told.__class__, bool)
        return told

    def test_any_whole_order_that_does_not_fail(self):
        for upgrade in (PARTS, FAILING, BAD, ALIKE):
            rows = beginnings(upgrade)
            for row in rows + list(itertools.permutations(upgrade.steps)) + [(), (PL,), (PL, PL, QL, QB)]:
                right = row in rows and len(row) == 4 and row_end(upgrade, XX, row) is not None
                self.assertEqual(self.shows(upgrade, ("order", row)), right, row)
        empty = pair_of(["set a y"], ["set b y"], newer=[])
        self.assertTrue(self.shows(empty, ("order", ())))
        self.assertFalse(self.shows(empty, ("order", (PL,))))

    def test_tables_just_so(self):
        table = some_order(BAD, XX)[1]
        self.assertTrue(self.shows(BAD, ("none", table)))
        self.assertFalse(self.shows(BAD, ("none", table), YX))
        self.assertFalse(self.shows(BAD, ("none", table[::-1])))
        self.assertFalse(self.shows(BAD, ("order", table)))
        for value in bent(("none", table)):
            self.assertFalse(self.shows(BAD, value))
        self.assertFalse(self.shows(FAILING, ("none", table)))
        self.assertFalse(self.shows(FAILING, ("none", some_order(FAILING, XX)[1])))

    def test_right_evidence_bent(self):
        for value in bent(("order", (PL, QL, QB, PB))):
            self.assertFalse(self.shows(FAILING, value), value)

    def test_any_values(self):
        row = (PL, QL, QB, PB)
        for value in ANY_VALUES:
            wrong = (
                value, ("order", value), ("none", value), (value, row), ("order", row[:3] + (value,)),
                ("order", row + (value,)), ("order", row, value), ("none", some_order(BAD, XX)[1] + (value,)),
                ("none", some_order(BAD, XX)[1], value),
            )
            for upgrade in (FAILING, BAD):
                for bad in wrong:
                    self.assertFalse(self.shows(upgrade, bad), bad)


class Refusals(unittest.TestCase):

    def test_words_first(self):
        for value in ANY_VALUES + [("x", "z"), ["x", "x"], ("x",), XX + ("x",)]:
            if value != XX:
                for upgrade in (PARTS, FAILING, BAD):
                    for call in (plain, one_end, some_order):
                        with self.assertRaises(BadWords) as caught:
                            call(upgrade, value)
                        self.assertIs(caught.exception.value, value)
                    for call in (shows_one_end, shows_some_order):
                        with self.assertRaises(BadWords) as caught:
                            call(upgrade, value, ("order", upgrade.steps))
                        self.assertIs(caught.exception.value, value)


if __name__ == "__main__":
    unittest.main()
