"""Section 4: what is refused behind BadRelease, in which sequence, the steps of upgrades, and equality."""

import unittest

from scriptsamid.errors import Doubled, RingOfNeeds
from scriptsamid.releases import Release
from samples import ANY_VALUES, FULL, HOUSE, WEB, refusal, text_of, text_with

BOTH = ["package p", "  edition 1", "package q", "  edition 1"]


class DoubledNames(unittest.TestCase):

    def refused_at(self, line, **parts):
        self.assertEqual(refusal(text_of(**parts)), ("Doubled", line))

    def test_cells(self):
        self.refused_at(1, cells=["cell a x y", "cell a x y"])
        self.refused_at(2, cells=["cell a x y", "cell b x y", "cell a v w own", "cell b x y"])

    def test_words_of_a_cell(self):
        self.refused_at(1, cells=["cell a x y", "cell b x x"])
        self.refused_at(1, cells=["cell a x y", "cell b x y z x own", "cell c x x"])
        self.refused_at(0, cells=["cell a x y y", "cell b x y"])
        self.assertIsNone(refusal(text_of(cells=["cell a a y", "cell b a y"])))

    def test_packages(self):
        self.refused_at(4, packages=["package p", "  edition 1", "package p", "  edition 1"])
        self.refused_at(6, packages=[*BOTH, "package p", "  edition 1"])

    def test_sets(self):
        self.refused_at(5, sets=["set none", "set none"])
        self.refused_at(6, sets=["set none", "set one p 1", "set none p 1", "set one"])

    def test_needs_of_an_edition(self):
        self.refused_at(5, packages=["package p", "  edition 1", "    needs q", "    needs q", *BOTH[2:]])
        rows = ["package p", "  edition 1", "    needs q", "  edition 2", "    needs q", *BOTH[2:]]
        self.assertIsNone(refusal(text_of(packages=rows)))

    def test_laid_cells_of_an_edition(self):
        self.refused_at(5, packages=["package p", "  edition 1", "    lays a y", "    lays a y"])
        self.refused_at(6, packages=["package p", "  edition 1", "    lays a y", "    lays b y", "    lays a x"])
        rows = ["    lays a y", "  edition 2", "    lays a y", "package q", "  edition 1", "    lays a y"]
        self.assertIsNone(refusal(text_of(packages=["package p", "  edition 1", *rows])))

    def test_programs_of_an_edition(self):
        for name in ("before", "behind", "leaves", "gone"):
            for first, second in ((name, name), (f"back {name}", f"back {name}")):
                rows = [f"    {first}", "      fail", f"    {second}", "      fail"]
                self.refused_at(6, packages=["package p", "  edition 1", *rows])
            rows = [f"    {name}", "      fail", f"    back {name}", "      fail"]
            self.assertIsNone(refusal(text_of(packages=["package p", "  edition 1", *rows])))
        rows = ["    gone", "      fail"]
        self.assertIsNone(refusal(text_of(packages=["package p", "  edition 1", *rows, "  edition 2", *rows])))

    def test_packages_of_a_set(self):
        self.refused_at(7, packages=BOTH, sets=["set none", "set one p 1 p 1"])
        self.refused_at(8, packages=BOTH, sets=["set none", "set one p 1 q 1", "set two p 1 q 1 q 1"])
        self.refused_at(7, packages=BOTH, sets=["set none", "set one zz 1 p 1 zz 1"])
        self.refused_at(7, packages=BOTH, sets=["set none", "set one p 1 p 9"])

    def test_triggers(self):
        self.refused_at(6, packages=["package p", "  edition 1", "  at t", "    fail", "  at t", "    fail"])
        rows = ["package p", "  edition 1", "  at t", "    fail", "package q", "  edition 1", "  at t", "    fail"]
        self.refused_at(8, packages=rows)

    def test_the_first_line_of_several(self):
        self.refused_at(1, cells=["cell a x y", "cell b y y"], sets=["set none", "set none"])
        rows = ["package p", "  edition 1", "    lays a y", "    lays a y"]
        with self.assertRaises(Doubled) as caught:
            Release(text_of(packages=rows, sets=["set none", "set none"]))
        self.assertEqual(caught.exception.value, 5)


class UnnamedNames(unittest.TestCase):

    def refused_at(self, line, **parts):
        self.assertEqual(refusal(text_of(**parts)), ("Unnamed", line))

    def below(self, *rows):
        return refusal(text_of(
            cells=["cell a x y", "cell b x y", "cell c y x", "cell d x y z", "cell e x y own"],
            packages=["package p", "  edition 1", *rows],
        ))

    def test_needs(self):
        self.refused_at(4, packages=["package p", "  edition 1", "    needs q"])
        self.refused_at(4, packages=["package p", "  edition 1", "    needs a"])
        self.assertIsNone(refusal(text_of(packages=["package p", "  edition 1", "    needs q", *BOTH[2:]])))

    def test_laid_cells(self):
        for row in ("f x", "p x", "a z", "b none", "c z", "e x", "e y", "e z"):
            self.assertEqual(self.below(f"    lays {row}"), ("Unnamed", 7), row)
        for row in ("a x", "a y", "d z", "c x"):
            self.assertIsNone(self.below(f"    lays {row}"), row)

    def test_commands(self):
        wrong = ["set f x", "set a z", "set p x", "copy f to a", "copy a to f", "wake u", "wake a", "wake p"]
        right = ["set a x", "set d z", "set e y", "wake t", "fail", "copy a to b", "copy a to a"]
        for row in wrong:
            self.assertEqual(self.below("    gone", f"      {row}", "  at t", "    fail"), ("Unnamed", 8), row)
            self.assertEqual(self.below("  at t", f"    {row}"), ("Unnamed", 8), row)
        for row in right:
            self.assertIsNone(self.below("    gone", f"      {row}", "  at t", "    fail"), row)
            self.assertIsNone(self.below("  at t", f"    {row}"), row)

    def test_copies_between_cells_of_unlike_words(self):
        for row in ("copy a to c", "copy c to a", "copy a to d", "copy d to a"):
            self.assertEqual(self.below("    gone", f"      {row}"), ("Unnamed", 8), row)
        for row in ("copy a to e", "copy e to a", "copy e to e"):
            self.assertIsNone(self.below("    gone", f"      {row}"), row)

    def test_ifs(self):
        for row in ("if f = x", "if a = z", "if p = x", "if t = t"):
            self.assertEqual(self.below("    gone", f"      {row}", "        fail"), ("Unnamed", 8), row)
        for row in ("if e = x", "if a = y"):
            self.assertIsNone(self.below("    gone", f"      {row}", "        fail"), row)

    def test_in_both_parts_of_an_if(self):
        for row in ("set a z", "copy a to f", "wake u"):
            self.assertEqual(refusal(text_with("if a = x", f"  {row}")), ("Unnamed", 6))
            self.assertEqual(refusal(text_with("if a = x", "  fail", "else", f"  {row}")), ("Unnamed", 8))
            self.assertEqual(refusal(text_with("if a = x", "  if b = y", f"    {row}")), ("Unnamed", 7))
        self.assertEqual(refusal(text_with("if a = x", "  if b = z", "    fail")), ("Unnamed", 6))

    def test_a_trigger_may_be_woken_ahead_of_its_line_and_from_other_packages(self):
        rows = ["package p", "  edition 1", "    gone", "      wake u", *BOTH[2:], "  at u", "    fail"]
        self.assertIsNone(refusal(text_of(packages=rows)))

    def test_packages_and_editions_of_a_set(self):
        for row in ("r 1", "p 1 r 1", "a 1", "p 2", "p 0", "p 10", "p 1 q 3", "q " + "9" * 9000):
            self.refused_at(8, packages=[*BOTH, "  edition 2"], sets=["set none", f"set one {row}"])
        for row in ("p 1", "q 1", "q 2", "p 1 q 2"):
            sets = ["set none", f"set one {row}"]
            self.assertIsNone(refusal(text_of(packages=[*BOTH, "  edition 2"], sets=sets)))

    def test_what_a_set_needs(self):
        rows = ["package p", "  edition 1", "  edition 2", "    needs q", "    needs r", "package q", "  edition 1"]
        rows += ["package r", "  edition 1", "    needs q"]
        for row in ("p 2", "p 2 q 1", "p 1 r 1", "r 1", "p 2 r 1"):
            self.refused_at(13, packages=rows, sets=["set none", f"set one {row}"])
        for row in ("p 1", "q 1", "q 1 r 1", "p 2 q 1 r 1", "p 1 q 1"):
            self.assertIsNone(refusal(text_of(packages=rows, sets=["set none", f"set one {row}"])))

    def test_the_first_line_of_several(self):
        rows = ["package p", "  edition 1", "    lays a y", "    before", "      wake t", "      set c x"]
        self.refused_at(6, packages=rows, sets=["set none", "set one z 1"])
        self.refused_at(5, packages=BOTH[:2], sets=["set none", "set one z 1", "set two p 3"])


class Rings(unittest.TestCase):

    def ring(self, **needs):
        """The ring that is told for packages with these needs, a list for each edition."""
        rows = []
        for name, editions in needs.items():
            rows.append(f"package {name}")
            for number, names in enumerate(editions, 1):
                rows.append(f"  edition {number}")
                rows += [f"    needs {need}" for need in names]
        try:
            Release(text_of(packages=rows))
        except RingOfNeeds as error:
            self.assertIsInstance(error.value, tuple)
            return error.value
        return None

    def test_none(self):
        self.assertIsNone(self.ring(p=["qr"], q=["r"], r=[""]))
        self.assertIsNone(self.ring(p=[""], q=["p"], r=["pq", "p", "q"]))

    def test_over_one_package(self):
        self.assertEqual(self.ring(p=["p"]), ("p",))
        self.assertEqual(self.ring(p=["", "p"]), ("p",))
        self.assertEqual(self.ring(p=["q"], q=["", "", "q"]), ("q",))

    def test_over_two_packages(self):
        both = [("p", "q"), ("q", "p")]
        self.assertIn(self.ring(p=["q"], q=["p"]), both)
        self.assertIn(self.ring(p=["", "q"], q=["p", ""]), both)
        self.assertIn(self.ring(p=["q"], q=["", "", "p"], r=["p"]), both)
        self.assertIn(self.ring(r=["p"], p=["q"], q=["p"]), both)

    def test_over_three_packages(self):
        rings = [("p", "q", "r"), ("q", "r", "p"), ("r", "p", "q")]
        self.assertIn(self.ring(p=["q"], q=["r"], r=["p"]), rings)
        self.assertIn(self.ring(p=["", "q"], q=["r"], r=["", "", "p"]), rings)

    def test_behind_packages_that_are_in_no_ring(self):
        self.assertIn(self.ring(p=[""], q=["r"], r=["q"]), [("q", "r"), ("r", "q")])
        self.assertEqual(self.ring(p=[""], q=[""], r=["", "r"]), ("r",))
        self.assertIn(self.ring(p=["qr"], q=[""], r=["p"]), [("p", "r"), ("r", "p")])
        self.assertEqual(self.ring(p=["q"], q=["r"], r=["r"]), ("r",))

    def test_one_of_several(self):
        self.assertIn(self.ring(p=["qr"], q=["p"], r=["p"]), [("p", "q"), ("q", "p"), ("p", "r"), ("r", "p")])


class Sizes(unittest.TestCase):

    def size(self, *numbers):
        cells = [f"cell {name} " + " ".join("xyzv"[:number]) for name, number in zip("abcdef", numbers)]
        return refusal(text_of(cells=cells))

    def test_up_to_sixty(self):
        for numbers in ((3, 4, 4), (3, 4, 2, 2), (2, 2, 2, 2, 3), (3, 3, 3, 2), (4, 3, 4), (4,), (2, 2, 2, 2, 2)):
            self.assertIsNone(self.size(*numbers))

    def test_above_sixty(self):
        for numbers, number in (
            ((4, 4, 4), 64), ((2, 2, 2, 2, 2, 2), 64), ((3, 3, 3, 3), 81), ((4, 4, 4, 4, 4, 4), 4096),
            ((2, 2, 2, 3, 3), 72), ((2, 2, 2, 2, 4), 64), ((4, 4, 2, 2), 64),
        ):
            self.assertEqual(self.size(*numbers), ("TooLarge", number))

    def test_own_cells_count(self):
        self.assertEqual(refusal(text_of(cells=["cell a x y z v", "cell b x y z v own", "cell c x y z v own"])),
                         ("TooLarge", 64))


class Steps(unittest.TestCase):

    def most(self, packages, *sets):
        """How packages are refused, given as one string of letters for each edition."""
        words = {"b": "before", "h": "behind", "l": "leaves", "g": "gone", "B": "back before", "G": "back gone"}
        rows = []
        for name, editions in packages.items():
            rows.append(f"package {name}")
            for number, letters in enumerate(editions, 1):
                rows += [f"  edition {number}", "    lays a y"]
                rows += [row for letter in letters for row in (f"    {words[letter]}", "      set a y")]
        named = [f"set {name} {row}" for name, row in zip(("first", "second", "third"), sets)]
        return refusal(text_of(packages=rows, sets=["set none", *named]))

    def test_a_package_that_comes(self):
        for row, wanted in (("p 1 q 1", None), ("p 1 q 1 r 1", 7)):
            told = self.most({"p": ["bh"], "q": ["hb"], "r": [""]}, row)
            self.assertEqual(told, wanted and ("TooMany", wanted))

    def test_a_package_that_goes(self):
        for row, wanted in (("p 1 q 1", None), ("p 1 q 1 r 1", 7)):
            told = self.most({"p": ["lg"], "q": ["gl"], "r": [""]}, row)
            self.assertEqual(told, wanted and ("TooMany", wanted))

    def test_a_package_that_changes_its_edition(self):
        packages = {"p": ["lg", "bh"], "q": [""]}
        self.assertIsNone(self.most(packages, "p 1", "p 2 q 1"))
        packages = {"p": ["lg", "bh"], "q": ["h"]}
        self.assertEqual(self.most(packages, "p 1", "p 2 q 1"), ("TooMany", 7))
        packages = {"p": ["lg", "bh"], "q": ["l"]}
        self.assertEqual(self.most(packages, "p 1", "p 2", "p 1 q 1"), ("TooMany", 7))
        packages = {"p": ["lgbh", "lgbh"], "q": ["lg"]}
        self.assertEqual(self.most(packages, "p 1", "p 2 q 1"), ("TooMany", 8))

    def test_programs_of_the_other_edition_are_no_steps(self):
        self.assertIsNone(self.most({"p": ["bh", "bh"], "q": ["bh"]}, "p 1", "p 2 q 1"))
        self.assertIsNone(self.most({"p": ["lg", "lg"], "q": ["lg"]}, "p 1", "p 2 q 1"))
        packages = {"p": ["bh", "lg"], "q": ["lg"], "r": [""]}
        self.assertEqual(self.most(packages, "p 1 q 1", "p 2 r 1"), ("TooMany", 7))

    def test_what_stays_has_no_steps(self):
        packages = {"p": ["bhlg"], "q": ["bh"], "r": ["h"]}
        self.assertIsNone(self.most(packages, "p 1", "p 1 q 1"))
        self.assertIsNone(self.most(packages, "p 1 q 1", "p 1 q 1"))
        self.assertEqual(self.most(packages, "p 1 q 1", "p 1 q 1 r 1"), ("TooMany", 8))

    def test_counter_programs_and_triggers_are_no_steps(self):
        packages = {"p": ["bhBG"], "q": ["bhGB"], "r": [""]}
        self.assertIsNone(self.most(packages, "p 1 q 1"))
        self.assertEqual(self.most(packages, "p 1 q 1 r 1"), ("TooMany", 7))

    def test_each_package_has_its_lay(self):
        self.assertIsNone(self.most({"p": [""], "q": [""], "r": ["bhl"]}, "p 1 q 1 r 1"))

    def test_the_greatest_number_of_all_pairs(self):
        packages = {"p": ["bh", "bhl"], "q": ["bhlg", "b"], "r": ["lgbh", ""]}
        self.assertEqual(self.most(packages, "p 2 q 1 r 1"), ("TooMany", 9))
        self.assertEqual(self.most(packages, "p 2 q 2 r 2"), None)
        self.assertEqual(self.most(packages, "p 2 q 2 r 1", "p 2 q 2 r 2"), ("TooMany", 8))
        self.assertEqual(self.most(packages, "p 2 q 2", "p 1 q 1"), ("TooMany", 7))

    def test_sets_that_are_no_neighbours_and_both_directions(self):
        packages = {"p": ["lg"], "q": ["lg"], "r": ["bh"]}
        self.assertIsNone(self.most(packages, "p 1 q 1", "p 1"))
        self.assertEqual(self.most(packages, "p 1 q 1", "p 1", "r 1"), ("TooMany", 9))
        self.assertEqual(self.most(packages, "r 1", "p 1", "p 1 q 1"), ("TooMany", 9))


class TwoFaults(unittest.TestCase):

    def text(self, *, cells=(), needs="q", programs=(), sets=()):
        """The text of a release in which faults of several kinds can be put together."""
        rows = ["package p", "  edition 1", f"    needs {needs}"]
        rows += [row for name in programs for row in (f"    {name}", "      set a x")]
        rows += ["package q", "  edition 1"]
        return text_of(cells=["cell a x y", *cells], packages=rows, sets=["set none", *sets])

    def test_bad_release_ahead_of_doubled(self):
        self.assertEqual(refusal(self.text(cells=["cell a x y"])), ("Doubled", 1))
        self.assertEqual(refusal(self.text(cells=["cell a x y"], sets=["set one p"])), ("BadRelease", 8))
        self.assertEqual(refusal(self.text(cells=["cell a x y"], sets=["set one p 1 q 1", ""])), ("BadRelease", 9))

    def test_doubled_ahead_of_unnamed(self):
        self.assertEqual(refusal(self.text(needs="z")), ("Unnamed", 3))
        self.assertEqual(refusal(self.text(needs="z", sets=["set none"])), ("Doubled", 7))
        self.assertEqual(refusal(self.text(sets=["set one z 1 z 1"])), ("Doubled", 7))

    def test_unnamed_ahead_of_a_ring(self):
        self.assertEqual(refusal(self.text(needs="p")), ("RingOfNeeds", ("p",)))
        self.assertEqual(refusal(self.text(needs="p", sets=["set one p 2"])), ("Unnamed", 7))
        self.assertEqual(refusal(self.text(needs="p", sets=["set one q 1 z 1"])), ("Unnamed", 7))

    def test_a_ring_ahead_of_too_large(self):
        cells = ["cell b x y z v", "cell c x y z v", "cell d x y"]
        self.assertEqual(refusal(self.text(cells=cells)), ("TooLarge", 64))
        self.assertEqual(refusal(self.text(cells=cells, needs="p")), ("RingOfNeeds", ("p",)))

    def test_too_large_ahead_of_too_many(self):
        cells = ["cell b x y z v", "cell c x y z v", "cell d x y"]
        programs = ["before", "behind", "leaves", "gone"]
        self.assertEqual(refusal(self.text(programs=programs, sets=["set one p 1 q 1"])), None)
        rows = ["package r", "  edition 1", "    leaves", "      set a x", "    gone", "      set a x"]
        text = self.text(programs=programs, sets=["set one p 1 q 1 r 1"])
        text = text.replace("set none", "\n".join([*rows, "set none"]))
        self.assertEqual(refusal(text), ("TooMany", 7))
        self.assertEqual(refusal("\n".join([*cells, text])), ("TooLarge", 64))


class Equality(unittest.TestCase):

    def test_releases_of_the_same_text(self):
        for text in (WEB, FULL, HOUSE):
            self.assertTrue(Release(text) == Release("\n".join(text.split("\n"))))
            self.assertFalse(Release(text) != Release(text))

    def test_releases_of_other_texts(self):
        self.assertFalse(Release(WEB) == Release(FULL))
        self.assertTrue(Release(WEB) != Release(FULL))
        self.assertFalse(Release(WEB) == Release(WEB + "\nset third"))
        self.assertFalse(Release("cell a x y\npackage p\n  edition 1\nset n") ==
                         Release("cell a x y\npackage p\n  edition 1\nset m"))

    def test_nothing_else(self):
        release = Release(WEB)
        for value in [*ANY_VALUES, WEB, WEB.split("\n"), (WEB,), {"text": WEB}]:
            self.assertFalse(release == value)
            self.assertTrue(release != value)
            self.assertFalse(value == release)


if __name__ == "__main__":
    unittest.main()
