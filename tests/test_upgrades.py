"""Section 8: upgrades, their steps, what must be ahead, and their orders."""

import itertools
import unittest

from scriptsamid.errors import NoOrder, NoSet, NoStep
from scriptsamid.programs import program_at
from scriptsamid.releases import Release
from scriptsamid.upgrades import Upgrade
from samples import ANY_VALUES, TOWNS, WEB, edition, package, town, upgrade_of

WORDS = ["leaves", "before", "lay", "gone", "behind"]
WHOLE = edition(programs=[("before", "fail"), ("behind", "fail"), ("leaves", "fail"), ("gone", "fail")])


def steps_of(told):
    """Steps that are written as in p.lay."""
    return tuple(tuple(word.split(".")) for word in told.split())


def all_upgrades():
    """Upgrades between all sets of several releases."""
    for sets in TOWNS:
        release = town(*sets)
        for elder, newer in itertools.product(release.sets, repeat=2):
            yield Upgrade(release, elder, newer)


def natural(upgrade):
    """The steps by the sequence of the packages and of their steps."""
    return sorted(upgrade.steps, key=lambda step: (upgrade.release.packages.index(step[0]), WORDS.index(step[1])))


def must_be_ahead(upgrade, one, other):
    """What the rules say in their words, needs being read off the text of town."""
    needs = {("q", 1): "p", ("q", 2): "p", ("r", 1): "pq"}
    members = upgrade.release.members
    coming = needs.get((other[0], members[upgrade.newer].get(other[0])), "")
    leaving = needs.get((one[0], members[upgrade.elder].get(one[0])), "")
    return (
        one[0] == other[0] and WORDS.index(one[1]) < WORDS.index(other[1])
        or other[1] == "behind" and one[0] in coming and one[1] in ("before", "lay", "behind")
        or one[1] == "leaves" and other[0] in leaving and other[1] in ("leaves", "lay", "gone")
        or (one, other) in upgrade.leanings
    )


def orders_of(upgrade):
    """All permutations that keep the rules, by the numbers of their steps."""
    numbers = [
        row for row in itertools.permutations(range(len(upgrade.steps)))
        if not any(
            must_be_ahead(upgrade, upgrade.steps[behind], upgrade.steps[ahead])
            for ahead, behind in itertools.combinations(row, 2)
        )
    ]
    return [tuple(upgrade.steps[number] for number in row) for row in sorted(numbers)]


def told_order(upgrade):
    """The told order in the words of the document."""
    told = []
    while len(told) < len(upgrade.steps):
        told.append(next(
            step for step in natural(upgrade) if step not in told
            and all(other in told for other in upgrade.steps if must_be_ahead(upgrade, other, step))
        ))
    return tuple(told)


class Steps(unittest.TestCase):

    def test_of_the_first_example(self):
        release = Release(WEB)
        told = Upgrade(release, "empty", "second").steps
        self.assertEqual(told, steps_of("base.lay base.behind web.lay web.behind"))
        self.assertEqual(Upgrade(release, "second", "empty").steps, steps_of("web.leaves base.lay web.lay"))
        self.assertEqual(Upgrade(release, "first", "second").steps, told)

    def test_sets_with_the_same_packages(self):
        for name in ("none", "one", "two", "three"):
            upgrade = Upgrade(town(*TOWNS[0]), name, name)
            self.assertEqual((upgrade.steps, list(upgrade.orders())), ((), [()]))
        part = [package("p", edition())]
        self.assertEqual(upgrade_of(part, elder=["p 1"], newer=["p 1"]).steps, ())

    def test_packages_that_come_go_and_change(self):
        part = [package("p", WHOLE, WHOLE)]
        self.assertEqual(upgrade_of(part, newer=["p 1"]).steps, steps_of("p.before p.lay p.behind"))
        self.assertEqual(upgrade_of(part, elder=["p 2"], newer=[]).steps, steps_of("p.leaves p.lay p.gone"))
        for one, other in (("p 1", "p 2"), ("p 2", "p 1")):
            told = upgrade_of(part, elder=[one], newer=[other]).steps
            self.assertEqual(told, steps_of("p.leaves p.before p.lay p.gone p.behind"))

    def test_told_orders_of_all_upgrades(self):
        for upgrade in all_upgrades():
            self.assertEqual(upgrade.steps, told_order(upgrade))

    def test_the_properties(self):
        release = Release(WEB)
        upgrade = Upgrade(release, "first", "second", leanings=(steps_of("base.lay web.lay"),))
        self.assertIs(upgrade.release, release)
        self.assertEqual((upgrade.elder, upgrade.newer), ("first", "second"))
        self.assertEqual(upgrade.leanings, (steps_of("base.lay web.lay"),))
        self.assertEqual(Upgrade(release, "first", "second").leanings, ())


class Rules(unittest.TestCase):

    def ahead(self, *packages, **sets):
        """The pairs of steps of unlike packages of which the first is ahead of the second in all orders."""
        upgrade = upgrade_of(packages, **sets)
        orders = list(upgrade.orders())
        pairs = [
            f"{one[0]}.{one[1]} {other[0]}.{other[1]}" for one, other in itertools.permutations(natural(upgrade), 2)
            if one[0] != other[0] and all(order.index(one) < order.index(other) for order in orders)
        ]
        return sorted(pairs)

    def test_the_sequence_of_one_package(self):
        for elder, newer in ((["p 1"], ["p 2"]), ([], ["p 1"]), (["p 1"], [])):
            upgrade = upgrade_of([package("p", WHOLE, WHOLE)], elder=elder, newer=newer)
            self.assertEqual(list(upgrade.orders()), [upgrade.steps])

    def test_without_needs_all_is_let(self):
        parts = [package(name, edition(programs=[("behind", "fail")])) for name in ("p", "q")]
        self.assertEqual(self.ahead(*parts), [])

    def test_what_a_new_edition_needs(self):
        parts = [
            package("p", edition(needs=["q"], programs=[("before", "fail"), ("behind", "fail"), ("leaves", "fail")])),
            package("q", WHOLE),
        ]
        self.assertEqual(self.ahead(*parts), ["q.before p.behind", "q.behind p.behind", "q.lay p.behind"])

    def test_what_leaves_and_gone_of_a_changing_package_need_not_be(self):
        leaving = edition(programs=[("leaves", "fail"), ("gone", "fail")])
        parts = [package("p", edition(needs=["q"], programs=[("behind", "fail")])), package("q", leaving, edition())]
        told = self.ahead(*parts, elder=["q 1"], newer=["p 1", "q 2"])
        self.assertEqual(told, ["q.lay p.behind", "q.leaves p.behind"])

    def test_without_a_program_behind_nothing_is_needed(self):
        parts = [package("p", edition(needs=["q"], programs=[("before", "fail")])), package("q", WHOLE)]
        self.assertEqual(self.ahead(*parts), [])

    def test_what_an_elder_edition_needs(self):
        parts = [
            package("p", edition(needs=["q"], programs=[("leaves", "fail"), ("gone", "fail"), ("behind", "fail")])),
            package("q", WHOLE),
        ]
        told = self.ahead(*parts, elder=["p 1", "q 1"], newer=[])
        self.assertEqual(told, ["p.leaves q.gone", "p.leaves q.lay", "p.leaves q.leaves"])

    def test_steps_of_a_new_edition_need_not_wait_for_a_leaving_package(self):
        parts = [
            package("p", edition(needs=["q"], programs=[("leaves", "fail")])),
            package("q", edition(), edition(programs=[("before", "fail")])),
        ]
        told = self.ahead(*parts, elder=["p 1", "q 1"], newer=["q 2"])
        self.assertEqual(told, ["p.leaves q.lay"])

    def test_what_the_other_edition_needs_counts_for_nothing(self):
        programs = [("leaves", "fail"), ("behind", "fail")]
        parts = [
            package("p", edition(needs=["q"], programs=programs), edition(programs=programs)),
            package("q", edition(programs=[("behind", "fail")]), edition()),
        ]
        self.assertEqual(self.ahead(*parts, elder=["p 1", "q 1"], newer=["p 2", "q 2"]), [
            "p.leaves q.lay",
        ])
        self.assertEqual(self.ahead(*parts, elder=["p 2", "q 2"], newer=["p 1", "q 1"]), [
            "q.behind p.behind", "q.lay p.behind",
        ])

    def test_a_needed_package_that_stays(self):
        needing = edition(needs=["q"], programs=[("behind", "fail"), ("leaves", "fail")])
        parts = [package("p", needing), package("q", WHOLE)]
        self.assertEqual(self.ahead(*parts, elder=["q 1"], newer=["p 1", "q 1"]), [])
        self.assertEqual(self.ahead(*parts, elder=["p 1", "q 1"], newer=["q 1"]), [])


class Orders(unittest.TestCase):

    def test_against_all_permutations(self):
        many = 0
        for upgrade in all_upgrades():
            told = list(upgrade.orders())
            self.assertEqual(told, orders_of(upgrade))
            many = max(many, len(told))
        self.assertGreater(many, 10)

    def test_against_all_permutations_with_leanings(self):
        for upgrade in all_upgrades():
            for pair in itertools.combinations(upgrade.steps[::-1], 2):
                try:
                    leaning = Upgrade(upgrade.release, upgrade.elder, upgrade.newer, leanings=(pair,))
                except NoOrder:
                    kept = [order for order in orders_of(upgrade) if order.index(pair[0]) < order.index(pair[1])]
                    self.assertEqual(kept, [])
                    continue
                self.assertEqual(leaning.steps, told_order(leaning))
                self.assertEqual(list(leaning.orders()), orders_of(leaning))

    def test_it_is_a_generator_and_begins_anew_each_time(self):
        upgrade = Upgrade(Release(WEB), "empty", "second")
        generator = upgrade.orders()
        self.assertEqual(next(generator), upgrade.steps)
        self.assertEqual(next(upgrade.orders()), upgrade.steps)
        self.assertIs(generator, iter(generator))
        self.assertEqual(len(list(generator)), 2)


class Programs(unittest.TestCase):

    def test_of_each_step(self):
        release = town(*TOWNS[0])
        upgrade = Upgrade(release, "one", "two")
        for step, package_of, number, name in (
            (("p", "leaves"), "p", 1, "leaves"), (("p", "gone"), "p", 1, "gone"), (("p", "behind"), "p", 2, "behind"),
            (("q", "behind"), "q", 1, "behind"),
        ):
            self.assertEqual(upgrade.program(step), program_at(release, package_of, number, name))
            self.assertEqual(upgrade.counter(step), program_at(release, package_of, number, f"back {name}"))
        self.assertEqual(upgrade.counter(("p", "gone")), (("fail",),))
        self.assertEqual(upgrade.counter(("q", "behind")), ())
        came = Upgrade(release, "none", "one")
        self.assertEqual(came.program(("p", "before")), (("set", "b", "y"),))
        self.assertEqual(came.counter(("p", "before")), (("set", "b", "x"),))

    def test_of_lay(self):
        release = town(*TOWNS[0])
        lay = ("p", "lay")
        first, second = (("set", "a", "y"),), (("set", "b", "y"), ("set", "a", "y"))
        first_back, second_back = (("set", "a", "x"),), (("set", "b", "x"), ("set", "a", "x"))
        for elder, newer, program, counter in (
            ("none", "one", first, first_back), ("none", "three", second, second_back),
            ("one", "none", first_back, first), ("three", "none", second_back, second),
            ("one", "three", first_back + second, second_back + first),
            ("three", "one", second_back + first, first_back + second),
        ):
            upgrade = Upgrade(release, elder, newer)
            self.assertEqual(upgrade.program(lay), program)
            self.assertEqual(upgrade.counter(lay), counter)

    def test_a_lay_of_nothing(self):
        upgrade = Upgrade(town(*TOWNS[2]), "none", "two")
        self.assertEqual((upgrade.program(("r", "lay")), upgrade.counter(("r", "lay"))), ((), ()))

    def test_a_lay_of_a_cell_that_another_package_lays_too(self):
        parts = [package("p", edition(lays=["a y"])), package("q", edition(lays=["a x"]), edition(lays=["b y"]))]
        upgrade = upgrade_of(parts, elder=["q 1"], newer=["p 1", "q 2"])
        self.assertEqual(upgrade.program(("p", "lay")), (("set", "a", "y"),))
        self.assertEqual(upgrade.program(("q", "lay")), (("set", "a", "x"), ("set", "b", "y")))

    def test_no_step(self):
        release = town(*TOWNS[0])
        upgrade = Upgrade(release, "none", "one")
        others = [("p", "leaves"), ("q", "lay"), ("p", "back before"), ["p", "lay"], ("p", "lay", "lay"), "p.lay"]
        for value in ANY_VALUES + others:
            for call in (upgrade.program, upgrade.counter):
                with self.assertRaises(NoStep) as caught:
                    call(value)
                self.assertIs(caught.exception.value, value)
        with self.assertRaises(NoStep):
            Upgrade(release, "one", "one").program(("p", "lay"))


class Leanings(unittest.TestCase):

    def setUp(self):
        self.release = Release(WEB)

    def upgrade(self, *pairs):
        return Upgrade(self.release, "empty", "second", leanings=tuple(steps_of(pair) for pair in pairs))

    def test_what_is_told_follows_them(self):
        self.assertEqual(self.upgrade("web.lay base.lay").steps, steps_of("web.lay base.lay base.behind web.behind"))
        orders = list(self.upgrade("web.lay base.behind").orders())
        self.assertEqual(orders, [
            steps_of("base.lay web.lay base.behind web.behind"), steps_of("web.lay base.lay base.behind web.behind"),
        ])

    def test_ascending_by_the_told_order_and_each_once(self):
        pairs = ["web.lay base.behind", "web.lay base.lay", "web.lay base.behind", "base.lay web.behind"]
        wanted = tuple(steps_of(pair) for pair in ("web.lay base.lay", "web.lay base.behind", "base.lay web.behind"))
        for row in itertools.permutations(pairs):
            self.assertEqual(self.upgrade(*row).leanings, wanted)

    def test_all_pairs_that_the_told_order_has(self):
        steps = self.upgrade().steps
        pairs = tuple(itertools.combinations(steps, 2))
        upgrade = Upgrade(self.release, "empty", "second", leanings=pairs[::-1] + pairs)
        self.assertEqual((upgrade.leanings, list(upgrade.orders())), (pairs, [steps]))

    def test_those_that_the_rules_have_already(self):
        upgrade = self.upgrade("base.lay base.behind", "base.behind web.behind")
        self.assertEqual(upgrade.leanings, (steps_of("base.lay base.behind"), steps_of("base.behind web.behind")))
        self.assertEqual(list(upgrade.orders()), list(self.upgrade().orders()))

    def test_what_is_no_tuple(self):
        for value in ANY_VALUES:
            if value.__class__ is not tuple:
                with self.assertRaises(NoStep) as caught:
                    Upgrade(self.release, "empty", "second", leanings=value)
                self.assertIs(caught.exception.value, value)

    def test_the_first_that_is_no_pair_of_unlike_steps(self):
        right = steps_of("base.lay web.lay")
        wrong = [
            list(right), right[:1], right + right[:1], (right[0], right[0]), (right[0], ("web", "leaves")),
            (("base", "before"), right[1]), (right[0], list(right[1])), (right, right), right[0],
        ]
        for value in wrong + [value for value in ANY_VALUES]:
            for leanings in ((value,), (right, value), (value, ()), (right, value, None, right)):
                with self.assertRaises(NoStep) as caught:
                    Upgrade(self.release, "empty", "second", leanings=leanings)
                self.assertIs(caught.exception.value, value)

    def test_steps_there_are_not_without_any(self):
        with self.assertRaises(NoStep) as caught:
            Upgrade(self.release, "first", "first", leanings=(steps_of("base.lay web.lay"),))
        self.assertEqual(caught.exception.value, steps_of("base.lay web.lay"))


class Refusals(unittest.TestCase):

    def test_elder_then_newer_then_leanings(self):
        release = Release(WEB)
        for value in ANY_VALUES + ["base", "Empty", " empty", ("empty",), ["empty"]]:
            for elder, newer in ((value, None), (value, "first"), ("first", value)):
                for leanings in ((), 5):
                    with self.assertRaises(NoSet) as caught:
                        Upgrade(release, elder, newer, leanings=leanings)
                    self.assertIs(caught.exception.value, value)

    def test_rings(self):
        release = Release(WEB)
        for told in (
            ["base.lay web.lay", "web.lay base.lay"], ["base.behind base.lay"], ["web.behind base.behind"],
            ["web.behind base.lay"], ["web.lay base.lay", "base.behind web.lay"],
            ["web.behind base.lay", "base.lay web.lay"], ["base.behind web.lay", "web.behind base.lay"],
        ):
            leanings = tuple(steps_of(pair) for pair in told)
            with self.assertRaises(NoOrder) as caught:
                Upgrade(release, "empty", "second", leanings=leanings)
            ring = caught.exception.value
            self.assertIs(ring.__class__, tuple)
            self.assertEqual(len(ring), len(set(ring)))
            self.assertGreater(len(ring), 1)
            plain = Upgrade(release, "empty", "second")
            for one, other in zip(ring, ring[1:] + ring[:1]):
                ahead = [order.index(one) < order.index(other) for order in plain.orders()]
                self.assertTrue((one, other) in leanings or all(ahead), ring)

    def test_steps_then_rings(self):
        ring = (steps_of("base.lay web.lay"), steps_of("web.lay base.lay"))
        with self.assertRaises(NoStep):
            Upgrade(Release(WEB), "empty", "second", leanings=ring + (None,))

    def test_a_ring_among_steps_behind_which_others_stand(self):
        parts = [package("p", WHOLE), package("q", edition(needs=["p"], programs=[("behind", "fail")]))]
        for pair in ("p.lay p.before", "p.behind p.lay", "q.behind q.lay", "p.behind p.before", "q.behind p.before"):
            with self.assertRaises(NoOrder) as caught:
                upgrade_of(parts, leanings=(steps_of(pair),))
            ring = caught.exception.value
            place = ring.index(steps_of(pair)[0])
            self.assertEqual((ring[place:] + ring[:place])[1], steps_of(pair)[1])

    def test_a_ring_that_the_first_steps_only_wait_for(self):
        parts = [package("p", edition(needs=["q"], programs=[("behind", "fail")])), package("q", WHOLE)]
        with self.assertRaises(NoOrder) as caught:
            upgrade_of(parts, leanings=(steps_of("q.behind q.lay"),))
        self.assertIn(caught.exception.value, [steps_of("q.lay q.behind"), steps_of("q.behind q.lay")])


class Equality(unittest.TestCase):

    def test_by_release_sets_and_leanings(self):
        release = Release(WEB)
        upgrade = Upgrade(release, "first", "second")
        self.assertTrue(upgrade == Upgrade(Release(WEB), "first", "second"))
        self.assertFalse(upgrade != Upgrade(Release(WEB), "first", "second", leanings=()))
        self.assertFalse(upgrade == Upgrade(Release(WEB.replace("cell look", "cell sight")), "first", "second"))
        self.assertFalse(upgrade == Upgrade(release, "empty", "second"))
        self.assertFalse(upgrade == Upgrade(release, "first", "empty"))

    def test_sets_with_the_same_packages_are_unlike(self):
        release = Release(WEB.replace("set first base 1", "set first"))
        self.assertFalse(Upgrade(release, "empty", "second") == Upgrade(release, "first", "second"))
        self.assertFalse(Upgrade(release, "second", "empty") == Upgrade(release, "second", "first"))

    def test_by_leanings(self):
        release = Release(WEB)
        one, other = steps_of("base.lay web.lay"), steps_of("base.lay base.behind")
        both = Upgrade(release, "empty", "second", leanings=(one, other))
        self.assertTrue(both == Upgrade(release, "empty", "second", leanings=(other, one, other)))
        for leanings in ((), (one,), (other,)):
            self.assertFalse(both == Upgrade(release, "empty", "second", leanings=leanings))

    def test_nothing_else(self):
        upgrade = Upgrade(Release(WEB), "first", "second")
        for value in ANY_VALUES + [Release(WEB), ("first", "second"), upgrade.steps]:
            self.assertFalse(upgrade == value)
            self.assertTrue(upgrade != value)


if __name__ == "__main__":
    unittest.main()
