"""Section 10: the fewest leanings with which no order is bad."""

import itertools
import unittest

from scriptsamid.errors import BadWords, Failed
from scriptsamid.leanings import fewest, shows_fewest
from scriptsamid.releases import Release
from scriptsamid.upgrades import Upgrade
from randoms import some_upgrades
from samples import (
    ALIKE, ANY_VALUES, BAD, FAILING, PARTS, PB, PL, QB, QL, WAKING, XX, XY, YX, YY, bent, edition, numbered, package,
    pair_of, row_end, town_upgrades, upgrade_of,
)

RL, RB = ("r", "lay"), ("r", "behind")


def three_of(one, other, third, **sets):
    """The upgrade to p, q and r with these commands behind, a word of c being handed on from one to the other."""
    parts = [package(name, edition(programs=[("behind", *commands)])) for name, commands in
             (("p", one), ("q", other), ("r", third))]
    cells = ["cell a x y", "cell b x y", "cell c x y"]
    return upgrade_of(parts, cells=cells, newer=["p 1", "q 1", "r 1"], **sets)


CHAIN = three_of(["set a y"], ["copy a to b"], ["copy b to c"])
XXX = ("x", "x", "x")


def is_bad(upgrade, words, order):
    """Whether an order is bad, in the words of the document."""
    end = row_end(upgrade, words, order)
    return end is None or end != row_end(upgrade, words, upgrade.steps)


def bad_orders(upgrade, words):
    return [order for order in upgrade.orders() if is_bad(upgrade, words, order)]


def open_pairs(upgrade):
    """The pairs of steps that stand so in the told order, but not in every one."""
    orders = list(upgrade.orders())
    return [
        (one, other) for one, other in itertools.combinations(upgrade.steps, 2)
        if any(order.index(other) < order.index(one) for order in orders)
    ]


def keep_out(pairs, orders):
    """Whether each order has one of the pairs turned about."""
    return all(any(order.index(other) < order.index(one) for one, other in pairs) for order in orders)


def by_numbers(upgrade, pairs):
    return [numbered(upgrade, pair) for pair in pairs]


def is_least(upgrade, pairs, orders):
    """Whether no fewer pairs keep out these orders."""
    return not any(
        keep_out(fewer, orders) for many in range(len(pairs))
        for fewer in itertools.combinations(open_pairs(upgrade), many)
    )


def leaning(upgrade, pairs):
    """The upgrade with further leanings."""
    return Upgrade(upgrade.release, upgrade.elder, upgrade.newer, leanings=upgrade.leanings + tuple(pairs))


class Fewest(unittest.TestCase):

    def test_the_example(self):
        text = (
            'cell a x y\ncell b x y\npackage p\n  edition 1\n    behind\n      set a y\npackage q\n  edition 1\n    '
            'behind\n      copy a to b\nset none\nset all p 1 q 1'
        )
        upgrade = Upgrade(Release(text), 'none', 'all')
        self.assertEqual(fewest(upgrade, ('x', 'x'))[0], ((('p', 'behind'), ('q', 'lay')),))

    def test_nothing_where_no_order_is_bad(self):
        for words in (XX, XY, YX, YY):
            self.assertEqual(fewest(ALIKE, words), ((), ()))
        self.assertEqual(fewest(PARTS, YY), ((), ()))
        self.assertEqual(fewest(pair_of(["set a y"], ["fail"], newer=[]), XX), ((), ()))
        self.assertEqual(fewest(pair_of(["set a y"], ["fail"], newer=["p 1"]), XX), ((), ()))

    def test_by_wakes(self):
        self.assertEqual(fewest(WAKING, XX)[0], ((PB, QL),))

    def test_by_orders_that_fail(self):
        upgrade = pair_of(["set a y"], ["if a = x", "  fail"])
        self.assertEqual(fewest(upgrade, XX)[0], ((PB, QL),))

    def test_failed_with_the_step(self):
        for upgrade, step in ((FAILING, QB), (BAD, QB), (pair_of(["fail"], ["fail"]), PB)):
            with self.assertRaises(Failed) as caught:
                fewest(upgrade, XX)
            self.assertEqual(caught.exception.value, step)

    def test_not_failed_where_another_order_fails(self):
        self.assertEqual(fewest(pair_of(["if b = y", "  fail"], ["set b y"]), XX)[0], ((PB, QL),))

    def test_by_the_numbers_of_the_told_order(self):
        # By letters behind is less than lay, and a less than z; by numbers lay is less than behind, and z than a.
        parts = [package(name, edition(programs=[("behind", command)])) for name, command in
                 (("z", "set a y"), ("m", "copy a to b"), ("a", "copy b to c"))]
        cells = ["cell a x y", "cell b x y", "cell c x y"]
        upgrade = upgrade_of(parts, cells=cells, newer=["z 1", "m 1", "a 1"])
        pairs = ((("z", "behind"), ("m", "lay")), (("m", "behind"), ("a", "lay")))
        self.assertEqual(fewest(upgrade, XXX)[0], pairs)

    def test_more_than_one_pair(self):
        pairs, orders = fewest(CHAIN, XXX)
        self.assertEqual(pairs, ((PB, QL), (QB, RL)))
        self.assertTrue(is_least(CHAIN, pairs, orders))
        upgrade = three_of(["copy b to a"], ["copy c to b"], ["copy a to c"])
        self.assertEqual(len(fewest(upgrade, ("x", "y", "x"))[0]), 2)

    def test_leanings_of_the_upgrade(self):
        self.assertEqual(fewest(leaning(PARTS, [(PB, QL)]), XX), ((), ()))
        self.assertEqual(fewest(leaning(PARTS, [(PB, QB)]), XX), ((), ()))
        self.assertEqual(fewest(leaning(PARTS, [(PL, QB)]), XX)[0], ((PB, QL),))
        self.assertEqual(fewest(leaning(CHAIN, [(PB, QB)]), XXX)[0], ((QB, RL),))
        # Turned about, the told order is another one, and so is what is bad.
        turned = leaning(PARTS, [(QB, PB)])
        self.assertEqual((turned.steps, fewest(turned, XX)), ((PL, QL, QB, PB), ((), ())))
        turned = leaning(PARTS, [(QL, PL)])
        self.assertEqual(turned.steps, (QL, PL, PB, QB))
        self.assertEqual(fewest(turned, XX)[0], ((PB, QB),))

    def test_rules_that_reach_over_other_steps(self):
        # q needs p, and r needs q: all but their lays stand fast, also those of p ahead of those of r.
        parts = [
            package("p", edition(programs=[("behind", "set a y")])),
            package("q", edition(needs=["p"], lays=["a x"], programs=[("behind", "copy a to b")])),
            package("r", edition(needs=["q"], lays=["b x"], programs=[("behind", "copy b to c")])),
        ]
        cells = ["cell a x y", "cell b x y", "cell c x y"]
        upgrade = upgrade_of(parts, cells=cells, newer=["p 1", "q 1", "r 1"])
        for words in itertools.product("xy", repeat=3):
            self.matches(upgrade, words)
            for one, other in fewest(upgrade, words)[0]:
                self.assertFalse(other == QB or other == RB and one != PL)

    def matches(self, upgrade, words):
        """Checks what is told by a look at all orders and all pairs."""
        pairs, orders = fewest(upgrade, words)
        for row in (pairs, orders):
            self.assertIsInstance(row, tuple)
            self.assertEqual(by_numbers(upgrade, row), sorted(set(by_numbers(upgrade, row))))
        bad = bad_orders(upgrade, words)
        candidates = open_pairs(upgrade)
        wanted = next(
            some for many in range(len(candidates) + 1) for some in itertools.combinations(candidates, many)
            if keep_out(some, bad)
        )
        self.assertEqual(pairs, wanted)
        self.assertTrue(set(orders) <= set(bad))
        self.assertTrue(is_least(upgrade, pairs, orders))
        self.assertIs(shows_fewest(upgrade, words, (pairs, orders)), True)
        return len(pairs)

    def test_against_a_plain_look_at_all_orders(self):
        found = {}
        for upgrade, words in itertools.chain(town_upgrades(), some_upgrades(range(60))):
            if row_end(upgrade, words, upgrade.steps) is None:
                with self.assertRaises(Failed):
                    fewest(upgrade, words)
            else:
                many = self.matches(upgrade, words)
                found[many] = found.get(many, 0) + 1
        self.assertGreater(found[0], 100)
        self.assertGreater(found[1], 20)

    def test_put_in_as_leanings(self):
        upgrades = [(PARTS, XX), (WAKING, XX), (CHAIN, XXX)]
        upgrades.append((three_of(["copy b to a"], ["copy c to b"], ["copy a to c"]), ("x", "y", "x")))
        for upgrade, words in upgrades:
            pairs = fewest(upgrade, words)[0]
            self.assertNotEqual(pairs, ())
            leant = leaning(upgrade, pairs)
            self.assertEqual(leant.steps, upgrade.steps)
            self.assertEqual(bad_orders(leant, words), [])
            self.assertEqual(fewest(leant, words), ((), ()))
            for left_out in pairs:
                rest = [pair for pair in pairs if pair != left_out]
                self.assertNotEqual(bad_orders(leaning(upgrade, rest), words), [])

    def test_refused(self):
        for value in [*ANY_VALUES, list(XX), XX + ("x",), ("x", "z")]:
            if value != XX:
                for call in (
                    lambda: fewest(PARTS, value), lambda: shows_fewest(PARTS, value, ((), ())),
                    lambda: shows_fewest(PARTS, value, 0),
                ):
                    with self.assertRaises(BadWords) as caught:
                        call()
                    self.assertIs(caught.exception.value, value)
        with self.assertRaises(BadWords):
            fewest(BAD, ("x",))


class Shows(unittest.TestCase):

    def shows(self, upgrade, value, words=XX):
        told = shows_fewest(upgrade, words, value)
        self.assertIsInstance(told, bool)
        return told

    def test_any_such_pairs_and_orders(self):
        for upgrade, words in ((PARTS, XX), (WAKING, XX), (ALIKE, XX), (PARTS, YY)):
            bad = bad_orders(upgrade, words)
            candidates = open_pairs(upgrade)
            least = len(fewest(upgrade, words)[0])
            several = [some for many in range(4) for some in itertools.combinations(candidates, many)]
            rows = [some for many in range(4) for some in itertools.combinations(list(upgrade.orders()), many)]
            for pairs, orders in itertools.product(several, rows):
                wanted = (
                    len(pairs) == least and keep_out(pairs, bad) and set(orders) <= set(bad)
                    and is_least(upgrade, pairs, orders)
                )
                self.assertEqual(self.shows(upgrade, (pairs, orders), words), wanted, (pairs, orders))

    def test_two_pairs(self):
        bad = tuple(bad_orders(CHAIN, XXX))
        for pairs in (((PB, QL), (QB, RL)), ((PB, QL), (QB, RB)), ((PB, QB), (QB, RB))):
            self.assertTrue(self.shows(CHAIN, (pairs, bad), XXX))
            self.assertFalse(self.shows(CHAIN, (pairs[::-1], bad), XXX))
            self.assertFalse(self.shows(CHAIN, (pairs[:1], bad), XXX))
            self.assertFalse(self.shows(CHAIN, (pairs[:1] * 2, bad), XXX))
            self.assertFalse(self.shows(CHAIN, (pairs + ((QB, RB),), bad), XXX))
        one = tuple(order for order in bad if order.index(QB) < order.index(PB))
        other = tuple(order for order in bad if order.index(RB) < order.index(QB))
        pairs = ((PB, QB), (QB, RB))
        # One pair alone keeps out these.
        self.assertFalse(self.shows(CHAIN, (pairs, one), XXX))
        self.assertFalse(self.shows(CHAIN, (pairs, other), XXX))
        self.assertFalse(self.shows(CHAIN, (pairs, ()), XXX))

    def test_orders_in_another_sequence(self):
        pairs, orders = fewest(PARTS, XX)
        self.assertEqual(len(orders), 3)
        for row in itertools.permutations(orders):
            self.assertEqual(self.shows(PARTS, (pairs, row)), row == orders)
        self.assertFalse(self.shows(PARTS, (pairs, orders[:1] * 2)))
        self.assertTrue(self.shows(PARTS, (pairs, orders[1:2])))

    def test_pairs_that_cannot_be_leanings(self):
        orders = fewest(PARTS, XX)[1]
        # Turned about, told by the rules already, no pairs, and steps that there are not.
        for pair in ((QB, PB), (QL, PB), (PL, PB), (QL, QB), (PB, PB), (PB,), (PB, QL, QB), (PB, ("q", "gone")), PB):
            self.assertFalse(self.shows(PARTS, ((pair,), orders)), pair)

    def test_rows_that_are_no_bad_orders(self):
        pairs, orders = fewest(PARTS, XX)
        for row in (PARTS.steps, (PL, QL, PB, QB), (QB, QL, PL, PB), orders[0][:3], orders[0] + (PL,), (), (PB, QB)):
            self.assertFalse(self.shows(PARTS, (pairs, (row,))), row)

    def test_nothing_where_the_told_order_fails(self):
        for upgrade in (FAILING, BAD):
            orders = tuple(upgrade.orders())
            for value in (((), ()), ((), orders), (((PB, QB),), orders), (((PB, QB),), ()), ((PB, QB), orders[:1])):
                self.assertFalse(self.shows(upgrade, value))

    def test_right_evidence_bent(self):
        for upgrade, words in ((PARTS, XX), (CHAIN, XXX)):
            pairs, orders = fewest(upgrade, words)
            for part in bent(pairs):
                self.assertFalse(self.shows(upgrade, (part, orders), words), part)
            for part in bent(orders[:1]):
                self.assertFalse(self.shows(upgrade, (pairs, part), words), part)
            for value in ((pairs,), (pairs, orders, ()), [pairs, orders], (orders, pairs), (pairs, list(orders))):
                self.assertFalse(self.shows(upgrade, value, words))

    def test_any_values(self):
        pairs, orders = fewest(PARTS, XX)
        for value in ANY_VALUES:
            wrong = [value, (value,), (value, value, value), (pairs, (value,)), ((value,), orders)]
            wrong += [(((PB, value),), orders), (pairs, (orders[0][:3] + (value,),)), (value, orders), (pairs, value)]
            for row in wrong:
                self.assertFalse(self.shows(PARTS, row), row)
            self.assertEqual(self.shows(ALIKE, (value, value)), isinstance(value, tuple) and value == ())


if __name__ == "__main__":
    unittest.main()
