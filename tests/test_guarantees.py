"""Section 3: what may be relied on, tried by runs that stop anywhere and by all orders."""

import itertools
import unittest

from scriptsamid.again import again
from scriptsamid.back import back
from scriptsamid.orders import one_end
from scriptsamid.programs import cuts, done
from scriptsamid.releases import Release
from scriptsamid.upgrades import Upgrade
from samples import PAIR, PAIR_WORDS, TOWNS, both, some_programs, town

STOPS = [row for many in range(3) for row in itertools.product(range(3), repeat=many)]


class Stops(unittest.TestCase):
    """Guarantee (a)."""

    def setUp(self):
        self.release = Release(PAIR)

    def stopped(self, program, words, stops):
        """The (words, wakes) when runs were stopped at these cuts, one behind the other; a run without them goes on."""
        wakes = ()
        for number in stops:
            there = cuts(self.release, program, words)
            if number < len(there):
                words, wakes = there[number][0], both(wakes, there[number][1])
        return words, wakes

    def test_the_same_again_ends_as_without_a_stop(self):
        tried = 0
        for program in some_programs(3, 9):
            for words in PAIR_WORDS:
                if again(self.release, program, words)[0] == "same":
                    for stops in STOPS:
                        here, wakes = self.stopped(program, words, stops)
                        end, more, failed = done(self.release, program, here)
                        self.assertEqual((end, both(wakes, more), failed), done(self.release, program, words))
                        tried += 1
        self.assertGreater(tried, 1000)

    def test_taken_back_leaves_the_words_as_they_were(self):
        tried = 0
        for program, counter in itertools.product(some_programs(2, 3), some_programs(2, 3)):
            for words in PAIR_WORDS[1:3]:
                if back(self.release, program, counter, words)[0] == "back":
                    for stops, others in itertools.product(STOPS, STOPS):
                        here, _ = self.stopped(program, words, stops)
                        for left in (here, done(self.release, program, here)[0]):
                            if left != here or stops:
                                start, _ = self.stopped(counter, left, others)
                                end, _, failed = done(self.release, counter, start)
                                self.assertEqual((end, failed), (words, False), (program, counter, stops, others))
                                tried += 1
        self.assertGreater(tried, 1000)


class Ends(unittest.TestCase):
    """Guarantee (b)."""

    def ends(self, upgrade, words, order):
        """The words and wakes behind each beginning of an order."""
        ends = [(words, ())]
        for step in order:
            words, more, failed = done(upgrade.release, upgrade.program(step), words)
            self.assertFalse(failed)
            ends.append((words, both(ends[-1][1], more)))
        return ends

    def test_one_end_of_all_orders_or_two_neighbours(self):
        kinds = {}
        for sets in TOWNS:
            release = town(*sets)
            for elder, newer in itertools.permutations(release.sets, 2):
                upgrade = Upgrade(release, elder, newer)
                for words in itertools.product("xy", "xy", "xyz"):
                    told = one_end(upgrade, words)
                    kinds[told[0]] = kinds.get(told[0], 0) + 1
                    if told[0] == "one":
                        self.leads_through(upgrade, words, told[1])
                    if told[0] == "parts":
                        self.parts(upgrade, words, told[1], told[2])
        self.assertGreater(kinds["one"], 10)
        self.assertGreater(kinds["parts"], 10)

    def leads_through(self, upgrade, words, table):
        places = {frozenset(steps): (end, wakes) for steps, end, wakes in table}
        self.assertEqual(len(places), len(table))
        seen = set()
        for order in upgrade.orders():
            for many, end in enumerate(self.ends(upgrade, words, order)):
                self.assertEqual(places[frozenset(order[:many])], end)
                seen.add(frozenset(order[:many]))
        self.assertEqual(seen, set(places))

    def parts(self, upgrade, words, one, other):
        beginnings = [order[:len(one)] for order in upgrade.orders()]
        self.assertTrue(one in beginnings and other in beginnings)
        self.assertEqual((one[:-2], one[-2], one[-1]), (other[:-2], other[-1], other[-2]))
        self.assertNotEqual(self.ends(upgrade, words, one)[-1], self.ends(upgrade, words, other)[-1])


if __name__ == "__main__":
    unittest.main()
