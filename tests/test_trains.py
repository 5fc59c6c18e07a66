"""Section 13: rows of sets, the words that are kept in them, and the upgrades that are let."""

import unittest

from scriptsamid.errors import NoSet, NotLater, OtherNames
from scriptsamid.releases import Release
from scriptsamid.runs import good, shows_bad
from scriptsamid.trains import changed, kept, lets, skipped, why_not
from scriptsamid.upgrades import Upgrade
from randoms import some_release
from rows import CELLS, OVER, OWN, SAME, SHUT, Row, behind, row_of
from samples import ANY_VALUES, HOUSE, TOWNS, WEB, XX, XY, YX, YY, edition, package, text_of, town

RELEASES = [Release(WEB), Release(HOUSE), OVER, SHUT, OWN, SAME, *[town(*sets) for sets in TOWNS]]


class Kept(unittest.TestCase):

    def test_the_first_set(self):
        self.assertEqual(kept(OVER, "none"), (XX,))
        self.assertEqual(kept(Release(WEB), "empty"), (("off", "none", "dark"), ("off", "none", "light")))
        many = row_of([package("p", edition())], cells=("cell a y x own", "cell b z y", "cell c z y x own"))
        wanted = tuple((one, "z", other) for one in "xy" for other in "xyz")
        self.assertEqual(kept(many, "none"), wanted)

    def test_new_ends_of_let_upgrades(self):
        self.assertEqual(kept(OVER, "one"), (YX,))
        # Straight from none, and over one.
        self.assertEqual(kept(OVER, "two"), (XX, YY))
        self.assertEqual(kept(SAME, "more"), (YX,))
        self.assertEqual(kept(SAME, "last"), (XX,))

    def test_own_cells_have_any_words_behind_an_upgrade_too(self):
        web = Release(WEB)
        self.assertEqual(kept(web, "first"), (("off", "a", "dark"), ("off", "a", "light")))
        self.assertEqual(kept(web, "second"), (("fast", "b", "dark"), ("fast", "b", "light")))
        # a was copied from c, which then is given another word.
        wanted = tuple((one, "x", other) for one in "xy" for other in "xy")
        self.assertEqual(kept(OWN, "one"), wanted)

    def test_a_set_to_which_no_let_upgrade_leads(self):
        self.assertEqual(kept(SHUT, "one"), ())
        self.assertEqual(kept(SHUT, "two"), (XY,))
        self.assertEqual(kept(OWN, "two"), ())

    def test_no_set(self):
        for value in [*ANY_VALUES, "NONE", "p", ["none"], ("none",)]:
            with self.assertRaises(NoSet) as caught:
                kept(OVER, value)
            self.assertIs(caught.exception.value, value)

    def test_against_the_words_of_the_document(self):
        for release in RELEASES + [some_release(number) for number in range(60)]:
            row = Row(release)
            for name, words in zip(release.sets, row.kept):
                self.assertEqual(kept(release, name), tuple(sorted(words)))


class Lets(unittest.TestCase):

    def test_pairs_of_numbers(self):
        self.assertEqual(lets(OVER), ((0, 1), (0, 2), (1, 2)))
        self.assertEqual(lets(SHUT), ((0, 2),))
        self.assertEqual(lets(Release(WEB)), ((0, 1), (0, 2), (1, 2)))
        self.assertEqual(lets(row_of([package("p", edition())])), ())

    def test_let_from_all_kept_words_or_not_at_all(self):
        self.assertEqual(lets(OWN), ((0, 1),))
        # With c x it would go well.
        words = ("x", "x", "x")
        self.assertIsNone(good(Upgrade(OWN, "none", "two"), words))
        self.assertIn(words, kept(OWN, "none"))

    def test_to_a_set_with_the_same_packages(self):
        self.assertEqual(lets(SAME), ((0, 1), (0, 2), (0, 3), (1, 2), (1, 3), (2, 3)))

    def test_against_the_words_of_the_document(self):
        found = set()
        for release in RELEASES + [some_release(number) for number in range(60)]:
            told = lets(release)
            self.assertEqual(told, Row(release).lets())
            self.assertIsInstance(told, tuple)
            found.add(told)
        self.assertGreater(len(found), 4)


class WhyNot(unittest.TestCase):

    def test_let(self):
        for elder, newer in (("none", "one"), ("none", "two"), ("one", "two")):
            self.assertIsNone(why_not(OVER, elder, newer))
        self.assertIsNone(why_not(SAME, "one", "more"))

    def test_the_least_words_and_the_run(self):
        run = good(Upgrade(SHUT, "none", "one"), XX)
        self.assertEqual(why_not(SHUT, "none", "one"), (XX, run))
        words = ("x", "x", "y")
        self.assertEqual(why_not(OWN, "none", "two"), (words, good(Upgrade(OWN, "none", "two"), words)))
        # From (x, x, x) it goes well, and from (y, x, y) it does not either.
        self.assertEqual(why_not(OWN, "one", "three"), (words, ()))

    def test_where_plain_raises_the_run_is_empty(self):
        release = row_of([package("p", behind("fail"))], "set one p 1")
        self.assertEqual(why_not(release, "none", "one"), (XX, ()))

    def test_no_kept_words(self):
        self.assertEqual(why_not(SHUT, "one", "two"), ((), ()))
        self.assertEqual(why_not(OWN, "two", "three"), ((), ()))

    def test_against_the_words_of_the_document(self):
        tried = 0
        for release in RELEASES + [some_release(number) for number in range(60)]:
            row = Row(release)
            for one in range(len(release.sets)):
                for other in range(one + 1, len(release.sets)):
                    told = why_not(release, release.sets[one], release.sets[other])
                    self.assertEqual(told, row.why_not(one, other))
                    if told is not None and told[0]:
                        self.assertTrue(shows_bad(row.upgrade(one, other), *told))
                        tried += 1
        self.assertGreater(tried, 30)

    def test_refused(self):
        for value in [*ANY_VALUES, "NONE", ["one"]]:
            for elder, newer in ((value, "one"), ("one", value), (value, None), (value, value)):
                wrong = value if value.__class__ is not str or value not in OVER.sets else None
                with self.assertRaises(NoSet) as caught:
                    why_not(OVER, elder, newer)
                self.assertIs(caught.exception.value, wrong)
        with self.assertRaises(NoSet) as caught:
            why_not(OVER, "p", "q")
        self.assertEqual(caught.exception.value, "p")
        for elder, newer in (("one", "none"), ("two", "none"), ("two", "one"), ("one", "one"), ("none", "none")):
            with self.assertRaises(NotLater) as caught:
                why_not(OVER, elder, newer)
            self.assertEqual(caught.exception.value, (elder, newer))
        with self.assertRaises(NotLater):
            why_not(SHUT, "one", "none")


class Skipped(unittest.TestCase):

    def test_none(self):
        self.assertIsNone(skipped(Release(WEB)))
        self.assertIsNone(skipped(SAME))
        # Not all three are let.
        self.assertIsNone(skipped(SHUT))
        self.assertIsNone(skipped(row_of([package("p", edition())])))

    def test_straight_it_is_not_let(self):
        # With the first edition there it does not fail, and comes to other words than it would straight.
        parts = [package("p", edition(lays=["a y"]), edition(programs=[("before", "if a = x", "  fail")]))]
        release = row_of(parts, "set one p 1", "set two p 2")
        self.assertEqual(lets(release), ((0, 1), (1, 2)))
        self.assertIsNone(skipped(release))

    def test_the_least_one(self):
        self.assertEqual(skipped(OVER), (0, 1, 2, XX))

    def test_the_least_of_several(self):
        # Both from none and from skip; of the words of d the least, not the first one.
        parts = [
            package("p", behind("set a y", back=["set a x"]), behind("if a = y", "  set b y", back=["set b x"])),
            package("q", edition(lays=["c y"])),
        ]
        cells = [*CELLS, "cell c x y", "cell d z y x own"]
        release = row_of(parts, "set skip q 1", "set one p 1", "set two p 2 q 1", cells=cells)
        self.assertEqual(skipped(release), Row(release).skipped())
        self.assertEqual(skipped(release), (0, 2, 3, ("x", "x", "x", "x")))

    def test_the_words_that_part(self):
        # Only what the people of the house gave c makes it part.
        parts = [package(
            "p", behind("if c = y", "  set a y", back=["set a x"]), behind("if a = y", "  set b y", back=["set b x"]),
        )]
        release = row_of(parts, "set one p 1", "set two p 2", cells=[*CELLS, "cell c x y own"])
        self.assertEqual(lets(release), ((0, 1), (0, 2), (1, 2)))
        self.assertEqual(skipped(release), (0, 1, 2, ("x", "x", "y")))

    def test_against_the_words_of_the_document(self):
        for release in RELEASES + [some_release(number) for number in [*range(60), *range(300, 360)]]:
            self.assertEqual(skipped(release), Row(release).skipped())


class Changed(unittest.TestCase):

    def with_program(self, *commands):
        """SHUT with another program."""
        return row_of([package("p", *commands)], "set one p 1", "set two p 2")

    def test_of_a_release_and_of_itself(self):
        for release in RELEASES:
            self.assertEqual(changed(release, Release(release.text)), ())

    def test_with_a_program_otherwise(self):
        self.assertEqual(changed(SHUT, OVER), ((0, 1), (1, 2)))
        self.assertEqual(changed(OVER, SHUT), ((0, 1), (1, 2)))
        other = self.with_program(behind("set a y", back=["set a x"]), behind("set b y"))
        self.assertEqual(lets(other), ((0, 1),))
        self.assertEqual(changed(SHUT, other), ((0, 1), (0, 2)))
        self.assertEqual(changed(other, OVER), ((0, 2), (1, 2)))

    def test_all_else_may_differ(self):
        # Other words and an own cell, other packages, and other members of the sets.
        other = row_of([package("q", edition())], "set one", "set two q 1", cells=["cell a z y own", "cell b w v u"])
        self.assertEqual(lets(other), ((0, 1), (0, 2), (1, 2)))
        self.assertEqual(changed(other, SHUT), ((0, 1), (1, 2)))

    def test_other_names(self):
        parts = [package("p", edition(), edition())]
        same = row_of(parts, "set one p 1", "set two p 2")
        self.assertEqual(changed(OVER, same), ())
        for other in (
            row_of(parts, "set one p 1"), row_of(parts, "set one p 1", "set two p 2", "set three"),
            row_of(parts, "set two p 2", "set one p 1"), row_of(parts, "set one p 1", "set last p 2"),
            row_of(parts, "set one p 1", "set two p 2", cells=["cell b x y", "cell a x y"]),
            row_of(parts, "set one p 1", "set two p 2", cells=["cell a x y"]),
            row_of(parts, "set one p 1", "set two p 2", cells=["cell a x y", "cell c x y"]),
            Release(text_of(packages=parts[0], sets=["set first", "set one p 1", "set two p 2"])),
        ):
            for pair in ((OVER, other), (other, OVER)):
                with self.assertRaises(OtherNames) as caught:
                    changed(*pair)
                self.assertIsNone(caught.exception.value)

    def test_against_lets(self):
        releases = [some_release(number) for number in range(30)]
        for one, other in zip(releases, releases[1:]):
            wanted = tuple(sorted(set(Row(one).lets()) ^ set(Row(other).lets())))
            self.assertEqual(changed(one, other), wanted)


if __name__ == "__main__":
    unittest.main()
