"""Section 8, as far as TooMany of section 4 needs it: which steps an upgrade has."""

import unittest

from scriptsamid.releases import Release
from scriptsamid.steps import upgrade_steps
from samples import HOUSE, WEB


class Steps(unittest.TestCase):

    def steps(self, text, elder, newer):
        told = upgrade_steps(Release(text).parts, elder, newer)
        self.assertIsInstance(told, tuple)
        return [f"{name} {word}" for name, word in told]

    def test_a_package_that_comes(self):
        self.assertEqual(self.steps(HOUSE, {}, {"p": 1}), ["p before", "p lay", "p behind"])
        self.assertEqual(self.steps(HOUSE, {}, {"p": 2}), ["p lay", "p behind"])
        self.assertEqual(self.steps(HOUSE, {}, {"q": 1}), ["q lay"])

    def test_a_package_that_goes(self):
        self.assertEqual(self.steps(HOUSE, {"p": 1}, {}), ["p leaves", "p lay", "p gone"])
        self.assertEqual(self.steps(HOUSE, {"p": 2}, {}), ["p lay"])

    def test_a_package_that_changes_its_edition(self):
        self.assertEqual(self.steps(HOUSE, {"p": 1}, {"p": 2}), ["p leaves", "p lay", "p gone", "p behind"])
        self.assertEqual(self.steps(HOUSE, {"p": 2}, {"p": 1}), ["p before", "p lay", "p behind"])

    def test_packages_in_their_sequence(self):
        wanted = ["base lay", "base behind", "web lay", "web behind"]
        self.assertEqual(self.steps(WEB, {}, {"base": 2, "web": 1}), wanted)
        wanted = ["base lay", "web leaves", "web lay"]
        self.assertEqual(self.steps(WEB, {"base": 2, "web": 1}, {"base": 1}), wanted)
        self.assertEqual(self.steps(WEB, {"web": 1, "base": 1}, {}), wanted)

    def test_what_stays_has_no_steps(self):
        for members in ({}, {"p": 1}, {"p": 2, "q": 1}):
            self.assertEqual(self.steps(HOUSE, members, dict(members)), [])
        self.assertEqual(self.steps(HOUSE, {"p": 1}, {"p": 1, "q": 1}), ["q lay"])


class Parts(unittest.TestCase):

    def test_what_editions_need_and_lay(self):
        parts = Release(WEB).parts
        self.assertEqual([edition.lays for edition in parts["base"].editions], [[("log", "a")], [("log", "b")]])
        self.assertEqual([edition.needs for edition in parts["web"].editions], [["base"]])


if __name__ == "__main__":
    unittest.main()
