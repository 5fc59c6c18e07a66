"""Section 3 for runs with stops and for houses: what is told of them is tried by choices and stops of all kinds."""

import itertools
import random
import unittest

from scriptsamid.again import again
from scriptsamid.back import back
from scriptsamid.errors import ScriptError
from scriptsamid.houses import House
from scriptsamid.leanings import fewest
from scriptsamid.orders import one_end, plain
from scriptsamid.runs import choices, chosen, good
from scriptsamid.texts import read_house, read_run, show_house, show_run
from scriptsamid.trains import kept, lets
from scriptsamid.upgrades import Upgrade
from scriptsamid.ways import way
import moving
from randoms import some_release, some_upgrades
from rows import state
from samples import LAID, LOOPING, PARTS, STUCK, TWICE, UNTAKEN, XX, row_end, town_upgrades


def all_upgrades(many):
    """Upgrades with words, those of so many random releases among them."""
    yield from ((upgrade, XX) for upgrade in (LAID, STUCK, TWICE, LOOPING, UNTAKEN, PARTS))
    yield from town_upgrades()
    yield from some_upgrades(range(100, 100 + many))


def one_choice(upgrade, moment, dice, only=None):
    """A choice among those of a moment, or among only these, with a stop or not, and the moment behind it."""
    choice = dice.choice([choice for choice in choices(upgrade, moment) if only is None or choice[0] in only])
    stop = dice.choice(moving.stops(upgrade, moment, choice))
    return chosen(upgrade, moment, choice, stop=stop)


class Programs(unittest.TestCase):
    """Guarantees (a) and (b)."""

    def test_a_step_that_is_the_same_again(self):
        tried = 0
        dice = random.Random(1)
        for upgrade, words in all_upgrades(20):
            for choice in choices(upgrade, moving.first(words)):
                program = upgrade.program(choice[1]) if choice[0] == "begin" else ()
                if again(upgrade.release, program, words)[0] == "parts" or choice[0] != "begin":
                    continue
                wanted = chosen(upgrade, moving.first(words), choice)
                for many in range(6):
                    moment = moving.first(words)
                    running = choice
                    for _ in range(many):
                        there = moving.stops(upgrade, moment, running)
                        if len(there) > 1:
                            moment = chosen(upgrade, moment, running, stop=dice.choice(there[1:]))
                            running = ("again",)
                            tried += 1
                    self.assertEqual(chosen(upgrade, moment, running), wanted)
        self.assertGreater(tried, 100)

    def test_a_step_that_is_taken_back(self):
        tried = 0
        dice = random.Random(2)
        for upgrade, words in all_upgrades(20):
            for step in upgrade.steps:
                if back(upgrade.release, upgrade.program(step), upgrade.counter(step), words)[0] == "left":
                    continue
                steps = tuple(moving.ahead_of(upgrade, step))
                for _ in range(6):
                    moment = (words, steps, (), None, "on")
                    stop = dice.choice(moving.stops(upgrade, moment, ("begin", step)))
                    moment = chosen(upgrade, moment, ("begin", step), stop=stop)
                    while moment[3] is not None and dice.randrange(4):
                        moment = one_choice(upgrade, moment, dice)
                    # Ended, it is taken back only when turned, if it is the last of those done.
                    if moment[3] is None and step in moment[1]:
                        if choices(upgrade, moment) == () or moment[1][-1] != step:
                            continue
                        moment = chosen(upgrade, moment, ("turn",))
                    if moment[3] is not None or moment[4] == "turned":
                        moment = chosen(upgrade, moment, ("back",))
                    self.assertEqual(moment[:2], (words, steps))
                    tried += 1
        self.assertGreater(tried, 100)

    def test_one_end_also_with_stops(self):
        tried = 0
        dice = random.Random(3)
        for upgrade, words in all_upgrades(30):
            told = one_end(upgrade, words)
            if told[0] != "one":
                continue
            places = {steps: (here, wakes) for steps, here, wakes in told[1]}
            same = all(
                again(upgrade.release, upgrade.program(step), places[steps][0])[0] == "same"
                for steps in places for step in upgrade.steps
            )
            for _ in range(10 if same else 0):
                moment = moving.first(words)
                while len(moment[1]) < len(upgrade.steps):
                    if moment[3] is None:
                        self.assertEqual((moment[0], moment[2]), places[moment[1]])
                    moment = one_choice(upgrade, moment, dice, ["begin", "again"])
                self.assertEqual((moment[0], moment[2]), places[upgrade.steps])
                tried += 1
        self.assertGreater(tried, 100)


class Leanings(unittest.TestCase):
    """Guarantee (c)."""

    def test_no_order_is_bad_with_them_and_some_is_with_fewer(self):
        tried = 0
        for upgrade, words in all_upgrades(40):
            end = row_end(upgrade, words, upgrade.steps)
            if end is None:
                continue
            pairs, orders = fewest(upgrade, words)
            self.assertTrue(self.all_good(upgrade, words, pairs, end))
            others = [
                pair for pair in itertools.combinations(upgrade.steps, 2)
                if any(order.index(pair[1]) < order.index(pair[0]) for order in orders)
            ]
            for many in range(len(pairs)):
                for fewer in itertools.combinations(others, many):
                    self.assertFalse(self.all_good(upgrade, words, fewer, end))
                    tried += 1
        self.assertGreater(tried, 20)

    def all_good(self, upgrade, words, pairs, end):
        leanings = upgrade.leanings + tuple(pairs)
        leant = Upgrade(upgrade.release, upgrade.elder, upgrade.newer, leanings=leanings)
        return all(row_end(leant, words, order) == end for order in leant.orders())


class Runs(unittest.TestCase):
    """Guarantee (d)."""

    def end_of(self, upgrade, moment):
        """The nearest end, by choices without stops; None if there is none."""
        seen, layer = {moment}, [moment]
        while layer:
            behind = []
            for here in layer:
                if moving.ends(upgrade, here):
                    return here
                for choice in choices(upgrade, here):
                    result = chosen(upgrade, here, choice)
                    if result not in seen:
                        seen.add(result)
                        behind.append(result)
            layer = behind
        return None

    def test_what_is_good_comes_to_an_end_and_to_a_good_one(self):
        dice = random.Random(4)
        counted = {"good": 0, "bad": 0}
        for upgrade, words in all_upgrades(30):
            told = good(upgrade, words)
            if told is None:
                for _ in range(5):
                    moment = moving.first(words)
                    for _ in range(dice.randrange(12)):
                        if choices(upgrade, moment):
                            moment = one_choice(upgrade, moment, dice)
                    end = self.end_of(upgrade, moment)
                    self.is_good(upgrade, words, end)
                    counted["good"] += 1
            elif told != ():
                moment = moving.first(words)
                for choice, stop in told:
                    moment = chosen(upgrade, moment, choice, stop=stop)
                end = self.end_of(upgrade, moment)
                self.assertTrue(end is None or end == moment)
                if end is not None:
                    with self.assertRaises(AssertionError):
                        self.is_good(upgrade, words, end)
                counted["bad"] += 1
        self.assertGreater(min(counted.values()), 50)

    def is_good(self, upgrade, words, end):
        self.assertIsNotNone(end)
        self.assertEqual(end[0], plain(upgrade, words) if end[4] == "on" else words)

    def test_wise_choices_come_to_the_new_end_or_stops_keep_every_choice_away(self):
        dice = random.Random(5)
        counted = {"way": 0, "lost": 0}
        for upgrade, words in all_upgrades(20):
            kind, parts = way(upgrade, words)
            for _ in range(4):
                moment = moving.first(words)
                if kind == "way":
                    self.wise(upgrade, words, moment, parts, dice)
                else:
                    self.kept_away(upgrade, words, moment, parts, dice)
                counted[kind] += 1
        self.assertGreater(min(counted.values()), 50)

    def wise(self, upgrade, words, moment, rows, dice):
        table = {here: choice for here, choice, _ in rows}
        many = dice.randrange(8)
        while table[moment] is not None:
            # Stops there are, but not without end.
            stop = dice.choice(moving.stops(upgrade, moment, table[moment])) if many > 0 else None
            moment = chosen(upgrade, moment, table[moment], stop=stop)
            many -= 1
            self.assertGreater(many, -200)
        self.assertEqual((moment[0], moment[4]), (plain(upgrade, words), "on"))

    def kept_away(self, upgrade, words, moment, lots, dice):
        for _ in range(20):
            number = next(number for number, lot in enumerate(lots) if moment in lot)
            if not choices(upgrade, moment):
                break
            choice = dice.choice(choices(upgrade, moment))
            earlier = [here for lot in lots[:number] for here in lot]
            stops = moving.stops(upgrade, moment, choice)
            keeping = [stop for stop in stops if chosen(upgrade, moment, choice, stop=stop) in earlier]
            moment = chosen(upgrade, moment, choice, stop=keeping[0] if keeping else None)
        if moving.ends(upgrade, moment):
            try:
                self.assertNotEqual((moment[0], moment[4]), (plain(upgrade, words), "on"))
            except ScriptError:
                pass


class Houses(unittest.TestCase):
    """Guarantees (e) and (f)."""

    def led(self, release, dice):
        """A house that is led on at random, given anew behind each of its deeds."""
        house = House(release, release.sets[0], kept(release, release.sets[0])[0])
        for _ in range(25):
            yield house
            if house.moment is None:
                house.own("c", dice.choice("xy"))
                later = [release.sets[other] for one, other in lets(release) if release.sets[one] == house.name]
                if later and dice.randrange(3):
                    house.upgrade(dice.choice(later))
            else:
                name = [deed[1] for deed in house.history if deed[0] == "upgrade"][-1]
                choice = dice.choice(list(house.offers()))
                house.do(choice, dice.choice(moving.stops(Upgrade(release, house.name, name), house.moment, choice)))
        yield house

    def test_a_house_has_kept_words_and_what_is_let_is_good(self):
        dice = random.Random(9)
        came = 0
        for number in range(70):
            release = some_release(number)
            for house in self.led(release, dice):
                if house.moment is None:
                    came += house.name != release.sets[0]
                    self.assertIn(house.words, kept(release, house.name))
                    for one, other in lets(release):
                        if release.sets[one] == house.name:
                            self.assertIsNone(good(Upgrade(release, house.name, release.sets[other]), house.words))
        self.assertGreater(came, 50)

    def test_what_was_written_is_read_back(self):
        dice = random.Random(10)
        amid = 0
        for number in range(70):
            release = some_release(number)
            for house in self.led(release, dice):
                other = read_house(release, show_house(house))
                self.assertEqual(state(other), state(house))
                amid += house.moment is not None
                run = tuple(deed[1:] for deed in house.history if deed[0] == "do")
                self.assertEqual(read_run(show_run(run)), run)
        self.assertGreater(amid, 100)


if __name__ == "__main__":
    unittest.main()
