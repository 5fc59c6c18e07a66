"""Section 4: what is read, the form of each line, which line may stand where, and all bounds."""

import unittest

from scriptsamid.errors import BadRelease
from scriptsamid.programs import program_at
from scriptsamid.releases import Release
from samples import ANY_VALUES, FULL, HOUSE, WEB, refusal, text_of, text_with

RESERVED = (
    "cell own package edition needs lays before behind leaves gone back at set copy to wake fail if else"
).split(" ")


def bad(line):
    return ("BadRelease", line)


class Read(unittest.TestCase):

    def test_web(self):
        release = Release(WEB)
        self.assertEqual(release.text, WEB)
        self.assertEqual(release.cells, ("mode", "log", "look"))
        self.assertEqual(release.packages, ("base", "web"))
        self.assertEqual(release.sets, ("empty", "first", "second"))

    def test_sequences_are_those_of_the_text_and_not_of_the_letters(self):
        release = Release(text_of(
            cells=["cell z a b", "cell y a b", "cell x a b"],
            packages=["package z", "  edition 1", "package a", "  edition 1"],
            sets=["set z", "set m a 1", "set b z 1 a 1"],
        ))
        self.assertEqual(release.cells, ("z", "y", "x"))
        self.assertEqual(release.packages, ("z", "a"))
        self.assertEqual(release.sets, ("z", "m", "b"))

    def test_the_least_release(self):
        release = Release("cell a x y\npackage p\n  edition 1\nset none")
        self.assertEqual((release.cells, release.packages, release.sets), (("a",), ("p",), ("none",)))

    def test_full_and_house(self):
        self.assertIsNone(refusal(FULL))
        self.assertIsNone(refusal(HOUSE))

    def test_a_name_may_be_one_of_each_kind(self):
        self.assertIsNone(refusal(text_of(
            cells=["cell a a b own"],
            packages=["package a", "  edition 1", "    before", "      set a b", "  at a", "    wake a"],
            sets=["set a", "set b a 1"],
        )))

    def test_programs_stand_in_any_sequence(self):
        names = ["back gone", "gone", "back leaves", "behind", "before", "back before", "leaves", "back behind"]
        rows = [row for name in names for row in (f"    {name}", "      set a y")]
        self.assertIsNone(refusal(text_of(packages=["package p", "  edition 1", *rows])))

    def test_what_is_no_string(self):
        for value in ANY_VALUES:
            if not isinstance(value, str):
                self.assertEqual(refusal(value), bad(0))

    def test_strings_that_are_no_releases(self):
        for value in ("", " ", "\n", "\t", "x", "a x", "cell", "cell a", "set", "set none", "package p", "%", "0"):
            self.assertEqual(refusal(value), bad(0), value)

    def test_made_by_name(self):
        self.assertEqual(Release(text=WEB).text, WEB)
        with self.assertRaises(BadRelease) as caught:
            Release(text=None)
        self.assertEqual(caught.exception.value, 0)


class Lines(unittest.TestCase):

    def setUp(self):
        self.lines = FULL.split("\n")

    def refused_with(self, line, *rows):
        return refusal("\n".join([*self.lines[:line], *rows, *self.lines[line + 1:]]))

    def test_each_line_left_out(self):
        wanted = [
            ("Unnamed", 5), ("Unnamed", 8), ("Unnamed", 18), bad(3), bad(4), None, None, bad(7), None, None, None,
            bad(11), bad(12), None, bad(14), None, bad(16), None, bad(18), bad(19), bad(20), bad(21), bad(22), None,
        ]
        self.assertEqual([self.refused_with(line) for line in range(24)], wanted)

    def test_each_line_twice(self):
        wanted = [
            ("Doubled", 1), ("Doubled", 2), ("Doubled", 3), bad(4), bad(5), ("Doubled", 6), ("Doubled", 7), bad(8),
            None, None, None, bad(12), None, bad(14), None, bad(16), None, bad(18), bad(19), None, bad(21), bad(22),
            ("Doubled", 23), ("Doubled", 24),
        ]
        self.assertEqual([self.refused_with(line, row, row) for line, row in enumerate(self.lines)], wanted)

    def test_deeper_and_less_deep(self):
        for line, row in enumerate(self.lines):
            for more in (" ", "  ", "   ", "\t"):
                self.assertEqual(self.refused_with(line, more + row), bad(line), row)
            for less in (1, 2):
                if row.startswith("  "):
                    self.assertEqual(self.refused_with(line, row[less:]), bad(line), row)

    def test_a_blank_more(self):
        for line, row in enumerate(self.lines):
            for place in range(len(row) + 1):
                if row[place:place + 1] in ("", " "):
                    more = row[:place] + " " + row[place:]
                    self.assertEqual(self.refused_with(line, more), bad(line), more)

    def test_a_blank_less(self):
        for line, row in enumerate(self.lines):
            for place in range(len(row)):
                # Without the blank ahead of own the line is that of a cell with a longer word.
                if row[place] == " " and row[place:] != " own":
                    less = row[:place] + row[place + 1:]
                    self.assertEqual(self.refused_with(line, less), bad(line), less)
        self.assertIsNone(self.refused_with(2, "cell c x yown"))

    def test_tabs_for_blanks_capitals_and_empty_lines(self):
        for line, row in enumerate(self.lines):
            self.assertEqual(self.refused_with(line, row.replace(" ", "\t", 1) + "\t"), bad(line))
            self.assertEqual(self.refused_with(line, row.upper()), bad(line))
            for empty in ("", " ", "    ", "      "):
                self.assertEqual(self.refused_with(line, empty, row), bad(line))
        self.assertEqual(refusal(FULL + "\n"), bad(24))
        self.assertEqual(refusal("\n" + FULL), bad(0))

    def test_a_word_more_or_less(self):
        for line, row in enumerate(self.lines):
            # A cell may have a word more.
            if not row.startswith("cell"):
                self.assertEqual(self.refused_with(line, row + " x"), bad(line), row)
            if not row.endswith(" own"):
                self.assertEqual(self.refused_with(line, row.rpartition(" ")[0]), bad(line), row)

    def test_a_text_that_ends_too_early(self):
        for many in range(23):
            self.assertEqual(refusal("\n".join(self.lines[:many])), bad(many))
        self.assertIsNone(refusal("\n".join(self.lines[:23])))

    def test_lines_behind_the_sets(self):
        for row in self.lines[:22] + ["else", "end", "  edition 2", "  at u", "      wake t"]:
            self.assertEqual(refusal(FULL + "\n" + row), bad(24), row)

    def test_lines_between_the_parts(self):
        self.assertEqual(self.refused_with(20, "cell d x y", "package q"), bad(20))
        self.assertEqual(self.refused_with(22, "cell d x y", "set none"), bad(22))
        self.assertEqual(self.refused_with(5, "    lays b y", "    needs q"), bad(6))
        self.assertEqual(self.refused_with(15, "    needs q", "    back before"), bad(15))
        self.assertEqual(self.refused_with(15, "    lays b y", "    back before"), bad(15))
        self.assertEqual(self.refused_with(17, "  at u", "    fail", "  edition 2"), bad(19))
        self.assertEqual(self.refused_with(0, "package p", "  edition 1", "cell a x y"), bad(0))

    def test_other_words_where_words_are_kept(self):
        for line, row in enumerate(self.lines):
            parts = row.split(" ")
            for place, part in enumerate(parts):
                if part in RESERVED + ["="] and part != "own":
                    for other in ("word", "sett", "x", "->", "equals"):
                        row = " ".join([*parts[:place], other, *parts[place + 1:]])
                        self.assertEqual(self.refused_with(line, row), bad(line), row)

    def test_a_word_that_is_kept_or_misspelled_where_a_name_or_word_stands(self):
        others = [*RESERVED, "abcdefghi", "A", "x1", "1", "x-", "x_y", "=", "%", "x.", "ownx9"]
        for line, row in enumerate(self.lines):
            parts = row.split(" ")
            for place, part in enumerate(parts):
                if part.isalpha() and part not in RESERVED:
                    for other in others:
                        row = " ".join([*parts[:place], other, *parts[place + 1:]])
                        self.assertEqual(self.refused_with(line, row), bad(line), row)

    def test_names_may_be_like_kept_words(self):
        for name in ("cells", "owns", "sett", "ats", "elses", "i", "iff", "cop", "true", "none", "o", "gon"):
            self.assertIsNone(refusal(f"cell {name} {name} x\npackage {name}\n  edition 1\nset {name}"), name)

    def test_numbers_of_editions(self):
        for number in ("0", "2", "01", "+1", "-1", "1.0", "one", "11", ""):
            self.assertEqual(self.refused_with(4, f"  edition {number}"), bad(4), number)
        for number in ("1", "3", "02", "4"):
            self.assertEqual(self.refused_with(17, f"  edition {number}"), bad(17), number)

    def test_numbers_in_sets(self):
        for number in ("01", "00", "", "-1", "+1", "1.0", "x", "one", "1x", "0x1"):
            self.assertEqual(self.refused_with(23, f"set all p {number} q 1"), bad(23), number)
        for number in ("0", "3", "4", "10", "11", "12", "9" * 5000, "1" + "0" * 5000):
            self.assertEqual(self.refused_with(23, f"set all p {number} q 1"), ("Unnamed", 23), number[:9])
        for number in ("1", "2"):
            self.assertIsNone(self.refused_with(23, f"set all p {number} q 1"))


class Sets(unittest.TestCase):

    def with_sets(self, *sets):
        packages = [row for name in "pqr" for row in (f"package {name}", "  edition 1")]
        return refusal(text_of(packages=packages, sets=sets))

    def test_the_first_set_has_no_packages(self):
        for row in ("set one p 1", "set one zz 1", "set one p 7", "set one q 1 r 1"):
            self.assertEqual(self.with_sets(row, "set none"), bad(8))
            self.assertEqual(self.with_sets(row), bad(8))

    def test_packages_stand_in_their_sequence(self):
        self.assertIsNone(self.with_sets("set none", "set one p 1 q 1 r 1", "set two p 1 r 1", "set more"))
        for row in ("q 1 p 1", "r 1 q 1", "r 1 p 1", "p 1 r 1 q 1", "q 1 r 1 p 1", "p 1 q 1 p 1", "q 9 p 9"):
            self.assertEqual(self.with_sets("set none", f"set one {row}"), bad(9), row)

    def test_packages_that_there_are_not_count_for_nothing(self):
        for row in ("q 1 zz 1 p 1", "zz 1 q 1 p 1", "q 1 p 1 zz 1", "q 1 aa 1 zz 1 p 1"):
            self.assertEqual(self.with_sets("set none", f"set one {row}"), bad(9), row)
        for row in ("zz 1 p 1", "p 1 zz 1 q 1", "p 1 aa 1", "zz 1 aa 1"):
            self.assertEqual(self.with_sets("set none", f"set one {row}"), ("Unnamed", 9), row)

    def test_of_packages_of_one_name_the_first_one_counts(self):
        packages = ["package p", "  edition 1", "package q", "  edition 1", "package p", "  edition 1"]
        read = text_of(packages=packages, sets=["set none", "set one p 1 q 1"])
        self.assertEqual(refusal(read), ("Doubled", 6))
        refused = text_of(packages=packages, sets=["set none", "set one q 1 p 1"])
        self.assertEqual(refusal(refused), bad(9))


class Bounds(unittest.TestCase):

    def test_cells(self):
        rows = [f"cell {name} x y" for name in "abcdefg"]
        self.assertEqual(refusal(text_of(cells=[])), bad(0))
        for many in range(1, 6):
            self.assertIsNone(refusal(text_of(cells=rows[:many])))
        # Six cells have each two words at least, and 64 is above 60: they are read, but too large.
        self.assertEqual(refusal(text_of(cells=rows[:6])), ("TooLarge", 64))
        self.assertEqual(refusal(text_of(cells=rows)), bad(6))
        self.assertEqual(refusal(text_of(cells=[*rows[:6], "cell a x y"])), bad(6))

    def test_words_of_a_cell(self):
        for end in ("", " own"):
            for words in ("x", "x y z v w", "x y z v x", "x y z v w u"):
                self.assertEqual(refusal(text_of(cells=["cell b x y", f"cell a {words}{end}"])), bad(1))
            for words in ("x y", "x y z", "x y z v"):
                self.assertIsNone(refusal(text_of(cells=["cell b x y", f"cell a {words}{end}"])))
        for words in ("own", "x y own own", "own x y", "x own y", "x own y own"):
            self.assertEqual(refusal(text_of(cells=["cell b x y", f"cell a {words}"])), bad(1))

    def test_packages(self):
        rows = [[f"package {name}", "  edition 1"] for name in "pqrs"]
        for many in (1, 2, 3):
            self.assertIsNone(refusal(text_of(packages=sum(rows[:many], []))))
        self.assertEqual(refusal(text_of(packages=[])), bad(2))
        self.assertEqual(refusal(text_of(packages=sum(rows, []))), bad(8))
        self.assertEqual(refusal(text_of(packages=sum(rows[:3] + rows[:1], []))), bad(8))

    def test_sets(self):
        rows = ["set m", "set n", "set o", "set k", "set l"]
        for many in (1, 2, 3, 4):
            self.assertIsNone(refusal(text_of(sets=rows[:many])))
        self.assertEqual(refusal(text_of(sets=[])), bad(4))
        self.assertEqual(refusal(text_of(sets=rows)), bad(8))
        self.assertEqual(refusal(text_of(sets=[*rows[:4], "set m"])), bad(8))

    def test_editions(self):
        rows = ["  edition 1", "  edition 2", "  edition 3", "  edition 4"]
        for many in (1, 2, 3):
            self.assertIsNone(refusal(text_of(packages=["package p", *rows[:many]])))
        self.assertEqual(refusal(text_of(packages=["package p", *rows])), bad(6))
        self.assertEqual(refusal(text_of(packages=["package p"])), bad(3))
        self.assertEqual(refusal(text_of(packages=["package p", "  at t", "    fail", *rows[:1]])), bad(3))
        self.assertEqual(refusal(text_of(packages=["package p", "package q", *rows[:1]])), bad(3))

    def test_triggers_of_a_package(self):
        rows = [row for name in "tuvt" for row in (f"  at {name}", "    set a y")]
        for many in (0, 1, 2):
            self.assertIsNone(refusal(text_of(packages=["package p", "  edition 1", *rows[:2 * many]])))
        self.assertEqual(refusal(text_of(packages=["package p", "  edition 1", *rows[:6]])), bad(8))
        again = [*rows[:4], *rows[:2]]
        self.assertEqual(refusal(text_of(packages=["package p", "  edition 1", *again])), bad(8))

    def triggers(self, *names):
        rows = []
        for package, triggers in zip("pqr", names):
            rows += [f"package {package}", "  edition 1"]
            rows += [row for name in triggers for row in (f"  at {name}", "    set a y")]
        return refusal(text_of(packages=rows))

    def test_triggers_of_a_release(self):
        self.assertIsNone(self.triggers("tu", "v"))
        self.assertIsNone(self.triggers("t", "u", "v"))
        self.assertEqual(self.triggers("tu", "vw"), bad(12))
        self.assertEqual(self.triggers("tu", "v", "w"), bad(14))
        self.assertEqual(self.triggers("tu", "vt"), bad(12))
        self.assertEqual(self.triggers("tt", "uv"), bad(12))
        self.assertEqual(self.triggers("tt", "u"), ("Doubled", 6))

    def edition(self, *rows):
        packages = ["package p", "  edition 1", *rows]
        for name in "qr":
            packages += [f"package {name}", "  edition 1"]
        return refusal(text_of(cells=["cell a x y", "cell b x y", "cell c x y", "cell d x y"], packages=packages))

    def test_needs(self):
        self.assertIsNone(self.edition())
        self.assertIsNone(self.edition("    needs q"))
        self.assertIsNone(self.edition("    needs r", "    needs q"))
        for name in ("q", "p", "s"):
            self.assertEqual(self.edition("    needs q", "    needs r", f"    needs {name}"), bad(8))

    def test_laid_cells(self):
        rows = [f"    lays {name} y" for name in "dbca"]
        for many in range(4):
            self.assertIsNone(self.edition(*rows[:many]))
        self.assertEqual(self.edition(*rows), bad(9))
        self.assertEqual(self.edition(*rows[:3], "    lays d x"), bad(9))

    def test_programs(self):
        names = ["before", "behind", "leaves", "gone"]
        rows = []
        for many, name in enumerate(names + [f"back {name}" for name in names]):
            rows += [f"    {name}", "      set a y"]
            self.assertIsNone(self.edition(*rows), many)
        self.assertEqual(self.edition(*rows, "    before", "      set a y"), bad(22))
        self.assertEqual(self.edition(*rows[:14], *rows[:2], *rows[14:]), bad(22))

    def test_names_of_programs(self):
        for name in ("back", "back at", "back back", "back back before", "at t", "beside", "before before", "backgone"):
            self.assertEqual(self.edition(f"    {name}", "      set a y"), bad(6), name)

    def test_commands_of_a_program(self):
        rows = ["set a y", "copy a to b", "wake t", "fail", "if a = x\n        fail", "set a x", "set a x"]
        for many in range(1, 7):
            self.assertIsNone(refusal(text_with(*rows[:many])))
        self.assertEqual(refusal(text_with(*rows)), bad(12))
        self.assertEqual(refusal(text_with()), bad(5))

    def test_commands_of_a_trigger(self):
        packages = ["package p", "  edition 1", "  at t"]
        rows = ["    set a y"] * 7
        for many in range(1, 7):
            self.assertIsNone(refusal(text_of(packages=packages + rows[:many])))
        self.assertEqual(refusal(text_of(packages=packages + rows)), bad(11))
        self.assertEqual(refusal(text_of(packages=packages)), bad(5))

    def test_an_if_with_all_below_it_is_one_command(self):
        whole = ["if a = x", *["  fail"] * 4, "else", *["  fail"] * 4]
        self.assertIsNone(refusal(text_with(*["fail"] * 5, *whole)))
        self.assertIsNone(refusal(text_with(*whole * 6)))
        self.assertEqual(refusal(text_with(*whole * 6, "fail")), bad(65))
        self.assertEqual(refusal(text_with(*["fail"] * 6, *whole)), bad(11))

    def test_parts_of_an_if(self):
        for many in (1, 2, 3, 4):
            self.assertIsNone(refusal(text_with("if a = x", *["  fail"] * many)))
            self.assertIsNone(refusal(text_with("if a = x", "  fail", "else", *["  fail"] * many)))
        self.assertEqual(refusal(text_with("if a = x")), bad(6))
        self.assertEqual(refusal(text_with("if a = x", "fail")), bad(6))
        self.assertEqual(refusal(text_with("if a = x", "else", "  fail")), bad(6))
        self.assertEqual(refusal(text_with("if a = x", *["  fail"] * 5)), bad(10))
        self.assertEqual(refusal(text_with("if a = x", "  fail", "else")), bad(8))
        self.assertEqual(refusal(text_with("if a = x", "  fail", "else", "fail")), bad(8))
        self.assertEqual(refusal(text_with("if a = x", "  fail", "else", *["  fail"] * 5)), bad(12))

    def test_else_stands_behind_an_if_alone(self):
        self.assertEqual(refusal(text_with("else", "  fail")), bad(5))
        self.assertEqual(refusal(text_with("fail", "else", "  fail")), bad(6))
        self.assertEqual(refusal(text_with("if a = x", "  fail", "fail", "else", "  fail")), bad(8))
        self.assertEqual(refusal(text_with("if a = x", "  fail", "else", "  fail", "else", "  fail")), bad(9))
        self.assertEqual(refusal(text_with("if a = x", "  if a = y", "    fail", "    else", "      fail")), bad(8))

    def test_an_else_belongs_to_the_if_that_is_as_deep(self):
        text = text_with("if a = x", "  if b = y", "    fail", "else", "  wake t")
        wanted = (("if", "a", "x", (("if", "b", "y", (("fail",),), ()),), (("wake", "t"),)),)
        self.assertEqual(program_at(Release(text), "p", 1, "before"), wanted)
        text = text_with("if a = x", "  if b = y", "    fail", "  else", "    wake t")
        wanted = (("if", "a", "x", (("if", "b", "y", (("fail",),), (("wake", "t"),)),), ()),)
        self.assertEqual(program_at(Release(text), "p", 1, "before"), wanted)

    def test_ifs_stand_at_most_two_deep(self):
        two = ["if a = x", "  if a = y", "    fail", "  else", "    fail", "else", "  if b = x", "    fail"]
        self.assertIsNone(refusal(text_with(*two)))
        self.assertEqual(refusal(text_with("if a = x", "  if a = y", "    if b = x", "      fail")), bad(7))
        deep = ["if a = x", "  fail", "else", "  if a = x", "    fail", "  else", "    fail", "    if b = x"]
        self.assertEqual(refusal(text_with(*deep, "      fail")), bad(12))
        packages = ["package p", "  edition 1", "  at t", "    if a = x", "      if a = y", "        if b = x"]
        self.assertEqual(refusal(text_of(packages=[*packages, "          fail"])), bad(7))
        self.assertIsNone(refusal(text_of(packages=[*packages[:5], "        fail"])))

    def test_lengths_of_names_and_words(self):
        forms = ["cell {} x y", "cell a {} y"]
        for form in forms:
            for name in ("z", "zzzzzzzz"):
                self.assertIsNone(refusal(text_of(cells=["cell b x y", form.format(name)])))
            self.assertEqual(refusal(text_of(cells=["cell b x y", form.format("z" * 9)])), bad(1))
        for name in ("z", "zzzzzzzz"):
            rows = [f"package {name}", "  edition 1", f"  at {name}", f"    wake {name}"]
            self.assertIsNone(refusal(text_of(packages=rows, sets=[f"set {name}", f"set a {name} 1"])))
        self.assertEqual(refusal(text_of(packages=["package " + "z" * 9, "  edition 1"])), bad(2))
        self.assertEqual(refusal(text_of(sets=["set none", "set " + "z" * 9])), bad(5))


if __name__ == "__main__":
    unittest.main()
