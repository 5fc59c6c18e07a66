"""Section 12: what wise choices can do, whatever stops there are."""

import itertools
import unittest

from scriptsamid.errors import BadMoment, BadWords, Failed
from scriptsamid.leanings import fewest
from scriptsamid.runs import choices, chosen, good
from scriptsamid.ways import shows_way, turning, way
import moving
from randoms import some_upgrades
from samples import (
    ANY_VALUES, BAD, FAILING, LAID, LOOPING, PARTS, PB, PL, QB, QL, STUCK, TWICE, UNTAKEN, XX, XY, YX, YY, bent,
    edition, one_of, package, row_end, town_upgrades, upgrade_of,
)

FIRST = moving.first(XX)
# With this moment behind it, turned with nothing to take back.
OVER = (XX, (), (), None, "turned")


def place(moment):
    """By what moments are sorted, None being less than tuples."""
    words, steps, woken, opened, heading = moment
    return words, steps, woken, (0,) if opened is None else (1, opened), heading


def is_sorted(moments):
    """Whether moments are ascending."""
    return all(place(one) < place(other) for one, other in zip(moments, moments[1:]))


def shows(upgrade, words, value, start, to):
    """What stands in the document about ways and lots, for values that are of their kinds."""
    kind, parts = value
    if kind == "way":
        table = {moment: (choice, rank) for moment, choice, rank in parts}
        return start in table and is_sorted([moment for moment, _, _ in parts]) and all(
            (choice, rank) == (None, 0) if is_goal(upgrade, words, moment, to) else leads(upgrade, table, moment)
            for moment, (choice, rank) in table.items()
        )
    if not all(is_sorted(lot) for lot in parts) or not any(start in lot for lot in parts):
        return False
    return not any(is_goal(upgrade, words, moment, to) for lot in parts for moment in lot) and all(
        is_shut(upgrade, parts, number, moment) for number, lot in enumerate(parts) for moment in lot
    )


def is_goal(upgrade, words, moment, to):
    return moment in moving.Map(upgrade, moment).goals(words, to)


def leads(upgrade, table, moment):
    choice, rank = table[moment]
    if choice not in moving.choices(upgrade, moment):
        return False
    results = results_of(upgrade, moment, choice)
    return rank >= 0 and all(result in table for result in results) and table[results[0]][1] < rank


def is_shut(upgrade, lots, number, moment):
    earlier = [other for lot in lots[:number] for other in lot]
    for choice in moving.choices(upgrade, moment):
        whole, *stopped = results_of(upgrade, moment, choice)
        if whole not in [*earlier, *lots[number]] and not any(result in earlier for result in stopped):
            return False
    return True


def results_of(upgrade, moment, choice):
    return [moving.behind(upgrade, moment, choice, stop) for stop in moving.stops(upgrade, moment, choice)]


class Way(unittest.TestCase):

    def told(self, upgrade, words=XX, **named):
        """What way tells, which is shown to be right."""
        told = way(upgrade, words, **named)
        self.assertIs(shows_way(upgrade, words, told, **named), True)
        start = named.get("moment") or moving.first(words)
        self.assertTrue(shows(upgrade, words, told, start, named.get("to", "new")))
        return told

    def test_towards_the_new_end(self):
        for words in (XX, XY, YX, YY):
            self.assertEqual(self.told(PARTS, words)[0], "way")
            self.assertEqual(self.told(LAID, words)[0], "way")
            self.assertEqual(self.told(UNTAKEN, words, to="new")[0], "way")

    def test_each_stop_on_the_way_is_among_the_rows(self):
        upgrade = upgrade_of([package("p", edition(lays=["a y"]))], newer=["p 1"])
        start, opened, end = FIRST, (YX, (), (), (PL, "cut"), "on"), (YX, (PL,), (), None, "on")
        rows = ((start, ("begin", PL), 1), (opened, ("again",), 1), (end, None, 0))
        self.assertEqual(self.told(upgrade), ("way", rows))
        self.assertTrue(shows_way(upgrade, XX, ("way", ((FIRST, ("turn",), 1), (OVER, None, 0))), to="any"))

    def test_any_good_end_from_the_first_moment_is_to_turn_at_once(self):
        for upgrade in (PARTS, BAD, FAILING, STUCK, TWICE, LOOPING, UNTAKEN):
            for words in (XX, XY, YX, YY):
                self.assertEqual(self.told(upgrade, words, to="any")[0], "way")

    def test_without_steps(self):
        upgrade = upgrade_of([package("p", edition())], newer=[])
        for to in ("new", "any"):
            self.assertEqual(self.told(upgrade, to=to), ("way", ((FIRST, None, 0),)))
        self.assertEqual(self.told(upgrade, moment=OVER, to="any"), ("way", ((OVER, None, 0),)))
        self.assertEqual(self.told(upgrade, moment=OVER), ("lost", ((OVER,),)))

    def test_lost_where_plain_raises(self):
        for upgrade in (BAD, FAILING, one_of(["wake t"], [], ("t", "fail")), one_of(["wake t"], [], ("t", "wake t"))):
            kind, lots = self.told(upgrade)
            self.assertEqual(kind, "lost")
            self.assertIn(FIRST, [moment for lot in lots for moment in lot])

    def test_lost_by_stops(self):
        # Without stops it would go well; behind the first cut of the at program nothing does.
        kind, lots = self.told(STUCK)
        self.assertEqual((kind, len(lots)), ("lost", 2))
        self.assertIn((XX, STUCK.steps, (), (("at", "t"), "cut"), "on"), lots[0])
        self.assertNotIn(FIRST, lots[0])
        self.assertIn(FIRST, lots[1])
        self.assertEqual(self.told(TWICE)[0], "lost")
        self.assertEqual(self.told(LOOPING)[0], "way")

    def test_a_way_though_not_all_choices_are_good(self):
        for upgrade in (PARTS, UNTAKEN, LOOPING):
            self.assertIsNotNone(good(upgrade, XX))
            kind, rows = self.told(upgrade)
            self.assertEqual(kind, "way")
            self.assertEqual([choice for moment, choice, _ in rows if moment == FIRST], [("begin", PL)])

    def test_from_any_moment(self):
        # a was set, and b not; what is told goes by the words that are handed in, not by those of the moment.
        moment = (YX, (PL,), (), None, "on")
        self.assertEqual(self.told(PARTS, moment=moment)[0], "way")
        turned = (YX, (PL,), (), None, "turned")
        self.assertEqual(self.told(PARTS, moment=turned), ("lost", (((YX, (), (), None, "turned"), turned),)))
        self.assertEqual(self.told(PARTS, YX, moment=turned, to="any")[0], "way")
        self.assertEqual(self.told(PARTS, YX, moment=turned, to="new")[0], "lost")
        # No runs come here: not with q.behind cut when turned. To run it again sets b, to take it back does nothing.
        held = (XY, (PL, QL), ("t",), (QB, "cut"), "turned")
        for words, wanted in ((XX, "way"), (XY, "way"), (YX, "lost"), (YY, "lost")):
            self.assertEqual(self.told(PARTS, words, moment=held, to="any")[0], wanted)
        self.assertEqual(self.told(LAID, moment=(YY, (PL,), (), (PB, "back"), "turned"), to="any")[0], "way")

    def test_from_an_end_and_from_a_failed_trigger(self):
        end = (YX, UNTAKEN.steps, (), None, "on")
        self.assertEqual(self.told(UNTAKEN, moment=end), ("way", ((end, None, 0),)))
        other = (YY, UNTAKEN.steps, (), None, "on")
        self.assertEqual(self.told(UNTAKEN, moment=other), ("lost", ((other,),)))
        failed = (XX, STUCK.steps, (), (("at", "t"), "failed"), "on")
        for to in ("new", "any"):
            self.assertEqual(self.told(STUCK, moment=failed, to=to), ("lost", ((failed,),)))

    def test_against_a_look_at_all_moments(self):
        found = {}
        upgrades = itertools.product((LAID, STUCK, TWICE, LOOPING, UNTAKEN), (XX, XY, YX, YY))
        for upgrade, words in itertools.chain(upgrades, town_upgrades(), some_upgrades(range(25))):
            moves = moving.Map(upgrade, moving.first(words))
            for to in ("new", "any"):
                won = moves.won(moves.goals(words, to))
                for moment in [*list(moves.moves)[::11], None]:
                    told = way(upgrade, words, moment=moment, to=to)
                    self.assertEqual(told[0], "way" if (moment or moves.start) in won else "lost")
                    self.assertIs(shows_way(upgrade, words, told, moment=moment, to=to), True)
                    found[told[0], to] = found.get((told[0], to), 0) + 1
        self.assertEqual(len(found), 4)
        self.assertGreater(min(found.values()), 50)

    def test_chosen_again_and_again_it_leads_to_the_goal(self):
        for upgrade, words in itertools.chain([(PARTS, XX), (UNTAKEN, XX), (LOOPING, XX)], some_upgrades(range(10))):
            kind, rows = way(upgrade, words)
            if kind == "way":
                table = {moment: choice for moment, choice, _ in rows}
                for moment in table:
                    many = 0
                    while table[moment] is not None:
                        moment = chosen(upgrade, moment, table[moment])
                        many += 1
                        self.assertLess(many, 100)
                    self.assertEqual(choices(upgrade, moment), ())
                    self.assertEqual(moment[4], "on")

    def test_words_and_moments_that_are_refused(self):
        rows = way(PARTS, XX)
        for value in [*ANY_VALUES, list(XX), XX + ("x",), ("x", "z")]:
            if value != XX:
                for call in (
                    lambda: way(PARTS, value), lambda: way(PARTS, value, moment=value, to="any"),
                    lambda: shows_way(PARTS, value, rows), lambda: shows_way(PARTS, value, rows, moment=value),
                    lambda: turning(PARTS, value),
                ):
                    with self.assertRaises(BadWords) as caught:
                        call()
                    self.assertIs(caught.exception.value, value)
            moments = [value, (value, (), (), None, value), (XX, (), (), (PB, "cut"), "on"), FIRST + (value,)]
            for moment in [*moments, list(FIRST)]:
                if moment is not None:
                    for call in (lambda: way(PARTS, XX, moment=moment), lambda: shows_way(PARTS, XX, 0, moment=moment)):
                        with self.assertRaises(BadMoment) as caught:
                            call()
                        self.assertIs(caught.exception.value, moment)
        with self.assertRaises(BadWords):
            turning(BAD, ("x",))


class ShowsWay(unittest.TestCase):

    def shows(self, upgrade, value, words=XX, **named):
        told = shows_way(upgrade, words, value, **named)
        self.assertIsInstance(told, bool)
        return told

    def test_ways_with_more_moments_and_other_ranks(self):
        for upgrade, to in itertools.product((PARTS, UNTAKEN, LOOPING, LAID), ("new", "any")):
            moves = moving.Map(upgrade, FIRST)
            goals = moves.goals(XX, to)
            rows = {moment: (moment, None, 0) for moment in goals}
            won = moves.won(goals)
            # Rows for all moments that are won; by other ranks, and by the last choices that lead on.
            while len(rows) < len(won):
                for moment in won - set(rows):
                    for choice, results in moves.moves[moment].items():
                        if results[0] in rows and all(result in won for result in results):
                            rows[moment] = (moment, choice, 3 * rows[results[0]][2] + 7)
            whole = tuple(rows[moment] for moment in sorted(rows, key=place))
            self.assertTrue(self.shows(upgrade, ("way", whole), to=to))
            for moment in rows:
                self.assertTrue(self.shows(upgrade, ("way", whole), moment=moment, to=to))
            if len(whole) > 1:
                self.assertFalse(self.shows(upgrade, ("way", whole[::-1]), to=to))
                self.assertFalse(self.shows(upgrade, ("way", whole[:1] + whole), to=to))
                self.assertFalse(self.shows(upgrade, ("way", whole[1:2] + whole[:1] + whole[2:]), to=to))

    def test_moments_that_no_runs_come_to(self):
        rows = ((XX, (), (), None, "turned"), None, 0), ((XY, (), (), None, "turned"), None, 0)
        self.assertTrue(self.shows(UNTAKEN, ("way", rows[:1]), moment=OVER, to="any"))
        self.assertFalse(self.shows(UNTAKEN, ("way", rows), moment=OVER, to="any"))
        self.assertFalse(self.shows(UNTAKEN, ("way", rows[1:]), moment=OVER, to="any"))
        far = (YY, (PL,), (), (PB, "failed"), "turned")
        rows = ((OVER, None, 0), (far, ("back",), 5))
        self.assertFalse(self.shows(UNTAKEN, ("way", rows), moment=OVER, to="any"))
        woken = (XX, (), ("t",), None, "turned")
        self.assertTrue(self.shows(STUCK, ("way", ((OVER, None, 0), (woken, None, 0))), moment=OVER, to="any"))

    def test_each_row_is_looked_at(self):
        for upgrade, named in ((PARTS, {}), (LAID, {}), (UNTAKEN, {"to": "any"}), (LOOPING, {"to": "new"})):
            rows = way(upgrade, XX, **named)[1]
            for number, (moment, choice, rank) in enumerate(rows):
                self.assertFalse(self.shows(upgrade, ("way", rows[:number] + rows[number + 1:]), **named))
                others = [(moment, other, rank) for other in [*moving.all_choices(upgrade), None] if other != choice]
                others += [(moment, choice, other) for other in range(rank)]
                others += [(moment, choice, other) for other in (-1, True, False, None, "0", (rank,))]
                others += [(moment, choice), (moment, choice, rank, None), [moment, choice, rank]]
                if choice is None:
                    others += [(moment, choice, 1), (moment, choice, 10 ** 30)]
                for row in others:
                    value = ("way", rows[:number] + (row,) + rows[number + 1:])
                    wanted = False
                    if isinstance(row, tuple) and len(row) == 3 and row[2].__class__ is int:
                        wanted = shows(upgrade, XX, value, FIRST, named.get("to", "new"))
                    self.assertEqual(self.shows(upgrade, value, **named), wanted, row)
                if choice is not None:
                    more = tuple((where, what, 0 if what is None else many + 10 ** 20) for where, what, many in rows)
                    self.assertTrue(self.shows(upgrade, ("way", more), **named))

    def test_other_lots(self):
        lots = way(STUCK, XX)[1]
        self.assertEqual(len(lots), 2)
        self.assertFalse(self.shows(STUCK, ("lost", lots[::-1])))
        self.assertFalse(self.shows(STUCK, ("lost", lots[:1])))
        self.assertFalse(self.shows(STUCK, ("lost", lots[1:])))
        self.assertFalse(self.shows(STUCK, ("lost", (tuple(sorted(lots[0] + lots[1], key=place)),))))
        self.assertTrue(self.shows(STUCK, ("lost", ((), lots[0], (), lots[1], ()))))
        self.assertTrue(self.shows(STUCK, ("lost", (lots[0], lots[0], lots[1], lots[0]))))
        self.assertFalse(self.shows(STUCK, ("lost", (lots[0], lots[1][::-1]))))
        self.assertFalse(self.shows(STUCK, ("lost", (lots[0], lots[1][:1] + lots[1]))))
        for start in lots[0] + lots[1]:
            self.assertTrue(self.shows(STUCK, ("lost", lots), moment=start))
        for start in lots[0]:
            self.assertTrue(self.shows(STUCK, ("lost", lots[:1]), moment=start))
        # The first lot may be parted again: what leads into a part by itself comes behind it.
        failed = (XX, STUCK.steps, (), (("at", "t"), "failed"), "on")
        self.assertTrue(self.shows(STUCK, ("lost", ((failed,), lots[0], lots[1]))))

    def test_each_moment_of_the_lots_is_looked_at(self):
        for upgrade, words, named in ((STUCK, XX, {}), (BAD, XX, {}), (TWICE, XX, {}), (UNTAKEN, XX, {
                "moment": (YX, (PL,), (), None, "turned"), "to": "any"})):
            lots = way(upgrade, words, **named)[1]
            start = named.get("moment", FIRST)
            for number, lot in enumerate(lots):
                for at in range(len(lot)):
                    less = lots[:number] + (lot[:at] + lot[at + 1:],) + lots[number + 1:]
                    wanted = shows(upgrade, words, ("lost", less), start, named.get("to", "new"))
                    self.assertEqual(self.shows(upgrade, ("lost", less), words, **named), wanted)

    def test_a_goal_is_in_no_lot(self):
        end = (YX, UNTAKEN.steps, (), None, "on")
        self.assertFalse(self.shows(UNTAKEN, ("lost", ((end,),)), moment=end))
        self.assertTrue(self.shows(UNTAKEN, ("lost", ((end,),)), YY, moment=end))
        self.assertFalse(self.shows(UNTAKEN, ("lost", ((OVER,),)), moment=OVER, to="any"))
        self.assertTrue(self.shows(UNTAKEN, ("lost", ((OVER,),)), moment=OVER, to="new"))
        self.assertFalse(self.shows(UNTAKEN, ("way", ((OVER, None, 0),)), moment=OVER, to="new"))

    def test_the_goal_by_its_name(self):
        both_ends = way(PARTS, XX, to="new"), way(PARTS, XX, to="any")
        self.assertFalse(self.shows(PARTS, both_ends[1], to="new"))
        # A way to a good new end is one to any good end.
        self.assertTrue(self.shows(PARTS, both_ends[0], to="any"))
        self.assertFalse(self.shows(STUCK, way(STUCK, XX, to="new"), to="any"))

    def test_right_evidence_bent(self):
        upgrade = upgrade_of([package("p", edition(lays=["a y"]))], newer=["p 1"])
        told = way(upgrade, XX)
        for value in bent(told):
            if value != told:
                self.assertFalse(self.shows(upgrade, value), value)
        lost = way(STUCK, XX)
        for value in bent(lost):
            if value[:1] == ("lost",) and len(value) == 2 and isinstance(value[1], tuple):
                continue
            self.assertFalse(self.shows(STUCK, value), value)
        for kind in ("Way", "lots", None, 0, ("way",)):
            self.assertFalse(self.shows(upgrade, (kind, told[1])))
            self.assertFalse(self.shows(STUCK, (kind, lost[1])))
        self.assertFalse(self.shows(upgrade, ("lost", told[1])))
        self.assertFalse(self.shows(STUCK, ("way", lost[1])))

    def test_any_values(self):
        told = ((FIRST, ("turn",), 1), (OVER, None, 0))
        self.assertTrue(self.shows(PARTS, ("way", told), to="any"))
        for value in ANY_VALUES:
            wrong = [value, ("way", value), ("lost", value), ("way", (value,)), ("lost", (value,)), (value, value)]
            wrong += [("lost", ((value,),)), ("lost", ((FIRST,), value)), ("way", ((value, ("turn",), 1),))]
            wrong += [("way", ((FIRST, value, 1), told[1])), ("way", (told[0], told[1], value)), (value, told)]
            if value is not None:
                wrong.append(("way", (told[0], (OVER, value, 0))))
            if value.__class__ is not int or value < 1:
                wrong.append(("way", ((FIRST, ("turn",), value), told[1])))
            if value.__class__ is not int or value != 0:
                wrong.append(("way", (told[0], (OVER, None, value))))
            for row, to in itertools.product(wrong, ("new", "any")):
                self.assertFalse(self.shows(PARTS, row, to=to), row)


class Turning(unittest.TestCase):

    def test_for_each_number_of_steps(self):
        self.assertEqual(turning(UNTAKEN, XX), (True, True, False))
        self.assertEqual(turning(UNTAKEN, YX), (True, True, True))
        self.assertEqual(turning(LAID, XX), (True, True, True))
        self.assertEqual(turning(LAID, XY), (True, True, False))
        self.assertEqual(turning(LAID, YY), (True, False, False))
        self.assertEqual(turning(PARTS, XX), (True, True, False, False, False))
        self.assertEqual(turning(upgrade_of([package("p", edition())], newer=[]), XX), (True,))
        for told in turning(UNTAKEN, XX):
            self.assertIsInstance(told, bool)

    def test_where_a_step_fails_in_the_told_order(self):
        self.assertEqual(turning(BAD, XX), ())
        self.assertEqual(turning(FAILING, XX), ())
        self.assertIs(turning(BAD, XX).__class__, tuple)
        # That a trigger fails, or runs without end, is nothing to that.
        self.assertEqual(turning(one_of(["wake t"], [], ("t", "fail")), XX), (True, True, True))
        self.assertEqual(turning(one_of(["wake t"], [], ("t", "wake t")), XX), (True, True, True))

    def test_with_what_the_steps_woke(self):
        # The elder set has the package whose trigger p wakes: then a good end is out of reach.
        self.assertEqual(turning(LOOPING, XX), (True, True, False))
        parts = [
            package("p", edition(programs=[("behind", "wake t"), ("back behind", "set b y")])),
            package("q", edition(), triggers=[("t", "set b x")]),
        ]
        upgrade = upgrade_of(parts, elder=["q 1"], newer=["p 1", "q 1"])
        self.assertEqual(turning(upgrade, XX), (True, True, True))
        self.assertEqual(turning(upgrade, XY), (True, True, False))

    def test_a_program_that_leads_back_only_over_a_stop(self):
        # Its counter-program takes it back without a stop, but not when it was stopped: then it is not wise to turn.
        upgrade = one_of(["set a y"], ["if a = y", "  set b y", "  copy b to a", "  set b x", "  set a x"])
        self.assertEqual(turning(upgrade, XX), (True, True, True))
        upgrade = one_of(["set a y"], ["if b = x", "  set b y", "  set a x", "  set b x", "else", "  fail"])
        self.assertEqual(turning(upgrade, XX), (True, True, False))

    def test_against_ways(self):
        for upgrade, words in itertools.chain(town_upgrades(), some_upgrades(range(30))):
            ends = [row_end(upgrade, words, upgrade.steps[:many]) for many in range(len(upgrade.steps) + 1)]
            if ends[-1] is None:
                self.assertEqual(turning(upgrade, words), ())
                with self.assertRaises(Failed):
                    fewest(upgrade, words)
                continue
            wanted = []
            for many, (here, wakes) in enumerate(ends):
                moves = moving.Map(upgrade, (here, upgrade.steps[:many], wakes, None, "turned"))
                wanted.append(moves.start in moves.won(moves.goals(words)))
            self.assertEqual(turning(upgrade, words), tuple(wanted))


if __name__ == "__main__":
    unittest.main()
