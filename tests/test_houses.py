"""Section 14: houses, what is done in them, what is refused, and copies."""

import random
import unittest

from scriptsamid.errors import (
    BadChoice, BadStop, Busy, Idle, NoCell, NoSet, NotKept, NotLater, NotLet, NoWord, ScriptError,
)
from scriptsamid.houses import House
from scriptsamid.orders import plain
from scriptsamid.programs import first_words
from scriptsamid.releases import Release
from scriptsamid.runs import choices, chosen
from scriptsamid.trains import kept, lets, why_not
from scriptsamid.upgrades import Upgrade
import moving
from randoms import some_release
from rows import BEGIN_BEHIND, BEGIN_LAY, BELL, HOME, OVER, OWN, SAME, SHUT, START, state
from samples import ANY_VALUES, PB, PL, WEB, XX, XY, YX, YY



def home():
    return House(HOME, "none", START)


class Made(unittest.TestCase):

    def test_properties(self):
        for release, name, words in (
            (HOME, "none", START), (HOME, "none", ("x", "x", "y", "x")), (HOME, "one", ("y", "y", "x", "y")),
            (OVER, "two", XX), (OVER, "two", YY), (SAME, "last", XX),
        ):
            house = House(release, name, words)
            self.assertEqual((house.release, house.name, house.words), (release, name, words))
            self.assertIsNone(house.moment)
            self.assertEqual(house.history, ())
            self.assertIsInstance(house.history, tuple)
        house = House(words=START, name="none", release=HOME)
        self.assertEqual(house.words, START)

    def test_no_set(self):
        for value in [*ANY_VALUES, "NONE", "p"]:
            for words in (START, value):
                with self.assertRaises(NoSet) as caught:
                    House(HOME, value, words)
                self.assertIs(caught.exception.value, value)

    def test_not_kept(self):
        others = [list(XX), YX, XY, YY, XX + ("x",), ("x",), ("x", "z")]
        for value in [*ANY_VALUES, *others]:
            if value != XX:
                with self.assertRaises(NotKept) as caught:
                    House(OVER, "none", value)
                self.assertIs(caught.exception.value, value)
            # No let upgrade leads here.
            with self.assertRaises(NotKept) as caught:
                House(SHUT, "one", value)
            self.assertIs(caught.exception.value, value)
        with self.assertRaises(NotKept):
            House(OVER, "two", YX)


class Own(unittest.TestCase):

    def test_own_cells_get_words(self):
        house = home()
        self.assertIsNone(house.own("c", "y"))
        self.assertEqual(house.words, ("x", "x", "y", "x"))
        house.own(word="y", cell="d")
        self.assertEqual(house.words, ("x", "x", "y", "y"))
        # Also the word that it has.
        house.own("c", "y")
        house.own("c", "x")
        self.assertEqual(house.words, ("x", "x", "x", "y"))
        history = (("own", "c", "y"), ("own", "d", "y"), ("own", "c", "y"), ("own", "c", "x"))
        self.assertEqual((house.history, house.name, house.moment), (history, "none", None))

    def test_refused(self):
        house = home()
        before = state(house)
        for value in [*ANY_VALUES, "a", "b", "e", ["c"], ("c",)]:
            for word in ("x", value):
                with self.assertRaises(NoCell) as caught:
                    house.own(value, word)
                self.assertIs(caught.exception.value, value)
            if value.__class__ is not str or value not in ("x",):
                with self.assertRaises(NoWord) as caught:
                    house.own("c", value)
                self.assertIs(caught.exception.value, value)
        self.assertEqual(state(house), before)

    def test_busy_ahead_of_all(self):
        house = home()
        house.upgrade("one")
        before = state(house)
        for cell, word in (("c", "y"), ("a", "x"), (None, None)):
            with self.assertRaises(Busy) as caught:
                house.own(cell, word)
            self.assertIsNone(caught.exception.value)
        self.assertEqual(state(house), before)


class Upgrades(unittest.TestCase):

    def test_begun(self):
        house = home()
        house.own("d", "y")
        words = ("x", "x", "x", "y")
        self.assertIsNone(house.upgrade("one"))
        self.assertEqual((house.name, house.words, house.moment), ("none", words, (words, (), (), None, "on")))
        self.assertEqual(house.history, (("own", "d", "y"), ("upgrade", "one")))
        self.assertEqual(list(house.offers()), [BEGIN_LAY, ("turn",)])

    def test_without_steps_it_is_over_at_once(self):
        house = House(SAME, "one", YX)
        self.assertIsNone(house.upgrade(name="more"))
        self.assertEqual((house.name, house.words, house.moment), ("more", YX, None))
        self.assertEqual(house.history, (("upgrade", "more"),))
        self.assertEqual(list(house.offers()), [])
        house.upgrade("last")
        self.assertEqual(house.name, "more")

    def test_refused(self):
        house = House(SHUT, "none", XX)
        before = state(house)
        for value in [*ANY_VALUES, "p", "NONE", ["two"]]:
            with self.assertRaises(NoSet) as caught:
                house.upgrade(value)
            self.assertIs(caught.exception.value, value)
        with self.assertRaises(NotLater) as caught:
            house.upgrade("none")
        self.assertEqual(caught.exception.value, ("none", "none"))
        with self.assertRaises(NotLet) as caught:
            house.upgrade("one")
        self.assertEqual(caught.exception.value, why_not(SHUT, "none", "one"))
        self.assertEqual(caught.exception.value[0], XX)
        self.assertEqual(state(house), before)
        house = House(SHUT, "two", XY)
        for name in ("none", "one", "two"):
            with self.assertRaises(NotLater) as caught:
                house.upgrade(name)
            self.assertEqual(caught.exception.value, ("two", name))

    def test_let_from_all_kept_words_or_refused(self):
        # From these words it would go well, from others of this set it would not.
        house = House(OWN, "none", ("x", "x", "x"))
        with self.assertRaises(NotLet) as caught:
            house.upgrade("two")
        self.assertEqual(caught.exception.value, (("x", "x", "y"), ()))

    def test_busy_ahead_of_all(self):
        house = home()
        house.upgrade("one")
        before = state(house)
        for name in ("one", "none", None, "nowhere"):
            with self.assertRaises(Busy) as caught:
                house.upgrade(name)
            self.assertIsNone(caught.exception.value)
        self.assertEqual(state(house), before)


class Do(unittest.TestCase):

    def test_on_to_the_end(self):
        house = House(HOME, "none", ("x", "x", "y", "x"))
        house.upgrade("one")
        self.assertIsNone(house.do(BEGIN_LAY))
        words = ("x", "y", "y", "x")
        self.assertEqual((house.name, house.words), ("none", words))
        self.assertEqual(house.moment, (words, (PL,), (), None, "on"))
        self.assertIsNone(house.do(BEGIN_BEHIND, 0))
        words = ("y", "y", "y", "x")
        self.assertEqual(house.moment, (words, (PL,), (), (PB, "cut"), "on"))
        self.assertEqual((house.name, house.words), ("none", words))
        house.do(stop=None, choice=("again",))
        self.assertEqual((house.name, house.words, house.moment), ("one", words, None))
        deeds = (
            ("upgrade", "one"), ("do", BEGIN_LAY, None), ("do", BEGIN_BEHIND, 0), ("do", ("again",), None),
        )
        self.assertEqual(house.history, deeds)
        self.assertEqual((list(house.offers()), house.wise()), ([], None))
        house.own("c", "x")
        house.upgrade("two")
        house.do(BEGIN_LAY)
        self.assertEqual((house.name, house.words, house.moment), ("two", ("y", "x", "x", "x"), None))
        self.assertEqual(len(house.history), 7)

    def test_turned(self):
        house = home()
        house.upgrade("one")
        for choice, stop in ((BEGIN_LAY, None), (BEGIN_BEHIND, 0), (("back",), None), (("turn",), None)):
            house.do(choice, stop)
            self.assertEqual((house.name, house.words), ("none", house.moment[0]))
        self.assertEqual(house.moment, (("x", "y", "x", "x"), (PL,), (), None, "turned"))
        house.do(("back",))
        self.assertEqual((house.name, house.words, house.moment), ("none", START, None))
        self.assertEqual(len(house.history), 6)
        # It may be begun again.
        house.upgrade("two")
        self.assertEqual(house.name, "none")

    def test_turned_at_once(self):
        house = home()
        house.upgrade("two")
        house.do(("turn",))
        self.assertEqual((house.name, house.words, house.moment), ("none", START, None))

    def test_over_behind_a_trigger(self):
        house = House(BELL, "none", XX)
        house.upgrade("one")
        house.do(BEGIN_LAY)
        house.do(BEGIN_BEHIND)
        self.assertEqual(house.moment, (XX, (PL, PB), ("t",), None, "on"))
        self.assertEqual(list(house.offers()), [("turn",), ("at", "t")])
        house.do(("at", "t"), 0)
        self.assertEqual(house.moment, (YX, (PL, PB), (), (("at", "t"), "cut"), "on"))
        house.do(("again",))
        self.assertEqual((house.name, house.words, house.moment), ("one", YY, None))

    def test_idle(self):
        house = home()
        before = state(house)
        for choice, stop in ((("turn",), None), (("turn",), 0), (None, None), (BEGIN_LAY, "x")):
            with self.assertRaises(Idle) as caught:
                house.do(choice, stop)
            self.assertIsNone(caught.exception.value)
        self.assertEqual(state(house), before)

    def test_refused(self):
        house = home()
        house.upgrade("one")
        for deed in (None, (BEGIN_LAY, 0), (("again",), None), (BEGIN_BEHIND, 0)):
            if deed is not None:
                house.do(*deed)
            before = state(house)
            others = [choice for choice in moving.all_choices(Upgrade(HOME, "none", "one")) if choice not in house]
            for value in [*ANY_VALUES, *others, list(BEGIN_LAY), "turn"]:
                for stop in (None, 0, value):
                    with self.assertRaises(BadChoice) as caught:
                        house.do(value, stop)
                    self.assertIs(caught.exception.value, value)
            for value in [*ANY_VALUES, 2, 9]:
                if value is not None and (value.__class__ is not int or value != 0):
                    for choice in house.offers():
                        with self.assertRaises(BadStop) as caught:
                            house.do(choice, value)
                        self.assertIs(caught.exception.value, value)
            if ("turn",) in house:
                with self.assertRaises(BadStop):
                    house.do(("turn",), 0)
            self.assertEqual(state(house), before)

    def test_as_choices_and_chosen(self):
        dice = random.Random(6)
        ended = {"on": 0, "turned": 0}
        for number in range(120):
            release = some_release(number)
            for pair in lets(release):
                elder, newer = [release.sets[number] for number in pair]
                words = kept(release, elder)[0]
                upgrade = Upgrade(release, elder, newer)
                house = House(release, elder, words)
                house.upgrade(newer)
                moment, deeds = moving.first(words), [("upgrade", newer)]
                while choices(upgrade, moment):
                    self.assertEqual((house.name, house.words, house.moment), (elder, moment[0], moment))
                    self.assertEqual(tuple(house.offers()), choices(upgrade, moment))
                    choice = dice.choice(choices(upgrade, moment))
                    stop = dice.choice(moving.stops(upgrade, moment, choice)) if len(deeds) < 8 else None
                    moment = chosen(upgrade, moment, choice, stop=stop)
                    house.do(choice, stop)
                    deeds.append(("do", choice, stop))
                name = newer if moment[4] == "on" else elder
                self.assertEqual((house.name, house.words, house.moment), (name, moment[0], None))
                self.assertEqual(house.history, tuple(deeds))
                self.assertIn(house.words, kept(release, name))
                ended[moment[4]] += 1
        self.assertGreater(min(ended.values()), 10)


class Offers(unittest.TestCase):

    def test_offers_are_generated(self):
        house = home()
        self.assertEqual(list(house.offers()), [])
        self.assertEqual(iter(house.offers()).__class__.__name__, "generator")
        house.upgrade("one")
        self.assertEqual(list(house.offers()), [BEGIN_LAY, ("turn",)])
        self.assertEqual(next(house.offers()), BEGIN_LAY)
        house.do(BEGIN_LAY, 0)
        self.assertEqual(list(house.offers()), [("again",), ("back",)])

    def test_in(self):
        house = home()
        for value in [*ANY_VALUES, ("turn",), BEGIN_LAY]:
            self.assertIs(value in house, False)
        house.upgrade("one")
        self.assertIs(("turn",) in house, True)
        self.assertIs(BEGIN_LAY in house, True)
        others = [BEGIN_BEHIND, ("back",), ["turn"], "turn", ("turn", None), ("begin", list(PL)), PL, ("at", "t")]
        for value in [*ANY_VALUES, *others]:
            self.assertIs(value in house, False)

    def test_wise(self):
        house = home()
        self.assertIsNone(house.wise())
        house.upgrade("one")
        self.assertIn(house.wise(), house)
        house.do(BEGIN_LAY, 0)
        while house.moment is not None:
            house.do(house.wise())
        self.assertIn((house.name, house.words), [("none", START), ("one", ("x", "y", "x", "x"))])

    def test_wise_again_and_again(self):
        dice = random.Random(7)
        tried = 0
        for number in range(120):
            release = some_release(number)
            for pair in lets(release):
                elder, newer = [release.sets[number] for number in pair]
                words = dice.choice(kept(release, elder))
                new = plain(Upgrade(release, elder, newer), words)
                house = House(release, elder, words)
                house.upgrade(newer)
                for _ in range(dice.randrange(7)):
                    if house.moment is not None:
                        choice = dice.choice(list(house.offers()))
                        stops = moving.stops(Upgrade(release, elder, newer), house.moment, choice)
                        house.do(choice, dice.choice(stops))
                before = state(house)
                self.assertEqual(house.wise(), house.wise())
                self.assertEqual(state(house), before)
                many = 0
                while house.moment is not None:
                    house.do(house.wise())
                    many += 1
                    self.assertLess(many, 100)
                self.assertIn((house.name, house.words), [(elder, words), (newer, new)])
                tried += 1
        self.assertGreater(tried, 50)


class Trials(unittest.TestCase):

    def busy(self):
        house = home()
        house.own("d", "y")
        house.upgrade("one")
        house.do(BEGIN_LAY)
        return house

    def test_a_copy_is_as_the_house_is(self):
        for house in (home(), self.busy(), House(OVER, "two", YY)):
            with house.trial() as copy:
                self.assertIsInstance(copy, House)
                self.assertIsNot(copy, house)
                self.assertEqual(state(copy), state(house))
            self.assertEqual(house.tried(state), state(house))

    def test_the_copy_goes_on_by_itself(self):
        house = self.busy()
        before = state(house)
        with house.trial() as copy:
            copy.do(BEGIN_BEHIND, 0)
            self.assertEqual(state(house), before)
            copy.do(("again",))
            copy.own("c", "y")
            copy.upgrade("two")
            self.assertEqual(len(copy.history), len(house.history) + 4)
        self.assertEqual(state(house), before)
        self.assertEqual((copy.name, copy.words), ("one", ("x", "y", "y", "y")))
        # And the house by itself.
        there = state(copy)
        house.do(("turn",))
        house.do(("back",))
        self.assertEqual(house.words, ("x", "x", "x", "y"))
        self.assertEqual(state(copy), there)
        copy.do(BEGIN_LAY)
        self.assertEqual(copy.name, "two")

    def test_a_copy_is_refused_as_the_house_would_be(self):
        with self.busy().trial() as copy:
            for call in (lambda: copy.own("c", "y"), lambda: copy.upgrade("two")):
                with self.assertRaises(Busy):
                    call()
            with self.assertRaises(BadChoice):
                copy.do(("again",))
        with House(SHUT, "two", XY).trial() as copy:
            with self.assertRaises(NotLater):
                copy.upgrade("one")

    def test_what_look_returns(self):
        house = self.busy()
        before = state(house)

        def look(copy):
            copy.do(BEGIN_BEHIND)
            return [copy.name, copy.words, len(copy.history)]

        self.assertEqual(house.tried(look), ["one", ("x", "y", "x", "y"), 4])
        self.assertEqual(house.tried(look=look), ["one", ("x", "y", "x", "y"), 4])
        self.assertIsNone(house.tried(lambda copy: None))
        self.assertEqual(state(house), before)

    def test_errors_go_through_and_the_house_stays(self):
        house = self.busy()
        before = state(house)

        def fall(copy):
            copy.do(BEGIN_BEHIND)
            raise KeyError("x")

        with self.assertRaises(KeyError):
            house.tried(fall)
        with self.assertRaises(ScriptError):
            house.tried(lambda copy: copy.do(("again",)))
        with self.assertRaises(KeyError):
            with house.trial() as copy:
                fall(copy)
        self.assertEqual(copy.name, "one")
        self.assertEqual(state(house), before)

    def test_a_copy_of_a_copy(self):
        house = self.busy()
        before = state(house)
        with house.trial() as copy:
            copy.do(BEGIN_BEHIND, 0)
            there = state(copy)
            with copy.trial() as other:
                other.do(("again",))
                self.assertEqual(other.name, "one")
            self.assertEqual(other.tried(lambda third: third.own("d", "x") or third.words), ("x", "y", "x", "x"))
            self.assertEqual(state(copy), there)
        self.assertEqual(state(house), before)
        self.assertEqual(other.words, ("x", "y", "x", "y"))

    def test_two_copies(self):
        house = self.busy()
        with house.trial() as one, house.trial() as other:
            one.do(BEGIN_BEHIND)
            self.assertEqual((one.name, other.name), ("one", "none"))
            self.assertEqual(state(other), state(house))
        manager = house.trial()
        with manager as one:
            one.do(BEGIN_BEHIND)
        with manager as other:
            self.assertEqual(state(other), state(house))


class First(unittest.TestCase):

    def test_the_first_example(self):
        web = Release(WEB)
        house = House(web, "empty", first_words(web))
        house.own("look", "dark")
        house.upgrade("second")
        for step in Upgrade(web, "empty", "second").steps:
            house.do(("begin", step))
        self.assertEqual(list(house.offers()), [("turn",), ("at", "index")])
        house.do(("at", "index"))
        self.assertEqual((house.name, house.words), ("second", ("fast", "b", "dark")))


if __name__ == "__main__":
    unittest.main()
