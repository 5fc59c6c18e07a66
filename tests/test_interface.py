"""Section 2 and the interface: where what is listed is defined, how it is called, and that it changes nothing."""

import ast
import copy
import importlib
import inspect
import unittest

from scriptsamid.again import again, shows_again
from scriptsamid.back import back, could, shows_back, shows_could
from scriptsamid.desk import Desk
from scriptsamid.errors import NoProgram, ScriptError
from scriptsamid.houses import House
from scriptsamid.leanings import fewest, shows_fewest
from scriptsamid.orders import one_end, plain, shows_one_end, shows_some_order, some_order
from scriptsamid.programs import cuts, done, first_words, is_program, is_words, program_at
from scriptsamid.releases import Release
from scriptsamid.runs import choices, chosen, good, shows_bad
from scriptsamid.texts import read_house, read_run, show_house, show_run, show_words
from scriptsamid.trains import changed, kept, lets, skipped, why_not
from scriptsamid.upgrades import Upgrade
from scriptsamid.ways import shows_way, turning, way
from rows import BEGIN_LAY, HOME, state
from samples import ANY_VALUES, HOUSE, WEB

# The parameters of each function and class; those behind a * are passed by name alone.
LISTED = {
    "releases": {"Release": "text"},
    "programs": {
        "is_words": "release value", "first_words": "release", "is_program": "release value",
        "program_at": "release package edition name", "done": "release program words", "cuts": "release program words",
    },
    "again": {"again": "release program words", "shows_again": "release program words value"},
    "back": {
        "back": "release program counter words", "shows_back": "release program counter words value",
        "could": "release program some", "shows_could": "release program some value",
    },
    "upgrades": {"Upgrade": "release elder newer * leanings"},
    "orders": {
        "plain": "upgrade words", "one_end": "upgrade words", "shows_one_end": "upgrade words value",
        "some_order": "upgrade words", "shows_some_order": "upgrade words value",
    },
    "leanings": {"fewest": "upgrade words", "shows_fewest": "upgrade words value"},
    "runs": {
        "choices": "upgrade moment", "chosen": "upgrade moment choice * stop", "good": "upgrade words",
        "shows_bad": "upgrade words value",
    },
    "ways": {
        "way": "upgrade words * moment to", "shows_way": "upgrade words value * moment to", "turning": "upgrade words",
    },
    "trains": {
        "kept": "release name", "lets": "release", "why_not": "release elder newer", "skipped": "release",
        "changed": "release other",
    },
    "houses": {"House": "release name words"},
    "texts": {
        "show_words": "words", "show_run": "run", "read_run": "text", "show_house": "house",
        "read_house": "release text",
    },
    "desk": {"Desk": "text"},
}
# The methods that are listed for a class, with their parameters behind self.
METHODS = {
    "releases": {"Release": {"__init__": "text", "__eq__": "other"}},
    "upgrades": {
        "Upgrade": {
            "__init__": "release elder newer * leanings", "__eq__": "other", "orders": "", "program": "step",
            "counter": "step",
        },
    },
    "houses": {
        "House": {
            "__init__": "release name words", "own": "cell word", "upgrade": "name", "do": "choice stop", "offers": "",
            "wise": "", "__contains__": "x", "trial": "", "tried": "look",
        },
    },
    "desk": {"Desk": {"__init__": "text", "say": "line"}},
}
# The parameters, by their places, that take only what is described, beside releases, upgrades and houses.
DESCRIBED = [(could, 2), (shows_could, 2), (show_words, 0), (show_run, 0)]
START = ("x", "x", "x", "y")
PROGRAM = (("set", "a", "y"), ("wake", "t"), ("if", "b", "x", (("fail",),), ()))
COUNTER = (("set", "a", "x"),)
FIRST = (START, (), (), None, "on")
BEGIN = ("begin", ("p", "before"))


def parameters(call):
    """The names of the parameters of a function or class, a * ahead of those that are passed by name alone."""
    told = []
    for parameter in inspect.signature(call).parameters.values():
        if parameter.kind == inspect.Parameter.KEYWORD_ONLY and "*" not in told:
            told.append("*")
        told.append(parameter.name)
    return " ".join(told)


def plainly(value):
    """A value, or all that is told of a house or of that of a desk."""
    if isinstance(value, Desk):
        return "desk", plainly(value.house)
    return state(value) if isinstance(value, House) else value


def outcome(call, *arguments, **named):
    """What a call returns, or how it refuses."""
    try:
        return call(*arguments, **named)
    except ScriptError as error:
        return error.__class__.__name__, error.value


class Places(unittest.TestCase):

    def test_each_is_defined_in_its_own_file(self):
        for name, members in LISTED.items():
            module = importlib.import_module(f"scriptsamid.{name}")
            tree = ast.parse(inspect.getsource(module))
            defined = [node.name for node in tree.body if isinstance(node, (ast.FunctionDef, ast.ClassDef))]
            for member in members:
                self.assertIn(member, defined)

    def test_names_of_parameters(self):
        for name, members in LISTED.items():
            module = importlib.import_module(f"scriptsamid.{name}")
            for member, wanted in members.items():
                self.assertEqual(parameters(getattr(module, member)), wanted, member)
                for parameter in inspect.signature(getattr(module, member)).parameters.values():
                    kinds = (inspect.Parameter.POSITIONAL_OR_KEYWORD, inspect.Parameter.KEYWORD_ONLY)
                    self.assertIn(parameter.kind, kinds)

    def test_methods_stand_in_their_own_class(self):
        for name, classes in METHODS.items():
            module = importlib.import_module(f"scriptsamid.{name}")
            for class_name, methods in classes.items():
                for method, wanted in methods.items():
                    told = parameters(vars(getattr(module, class_name))[method])
                    self.assertEqual(told.split(" ")[1:], wanted.split(), method)

    def test_errors_are_defined_in_their_file(self):
        module = importlib.import_module("scriptsamid.errors")
        self.assertEqual(inspect.getsource(module).count("import"), 0)


class Calls(unittest.TestCase):

    def setUp(self):
        self.release = Release(HOUSE)
        self.upgrade = Upgrade(self.release, "none", "one")
        self.house = House(HOME, "none", ("x", "x", "y", "x"))
        self.house.own("d", "y")
        self.house.upgrade("one")
        self.house.do(BEGIN_LAY)

    def calls(self):
        """Each function of the interface with arguments that it takes, in their sequence."""
        release, upgrade = self.release, self.upgrade
        starts = again(release, PROGRAM, START)
        left = back(release, PROGRAM, COUNTER, START)
        table = could(release, PROGRAM, (START,))
        return [
            (Release, [HOUSE]),
            (is_words, [release, START]), (first_words, [release]), (is_program, [release, PROGRAM]),
            (program_at, [release, "p", 1, "before"]), (done, [release, PROGRAM, START]),
            (cuts, [release, PROGRAM, START]),
            (again, [release, PROGRAM, START]), (shows_again, [release, PROGRAM, START, starts]),
            (back, [release, PROGRAM, COUNTER, START]), (shows_back, [release, PROGRAM, COUNTER, START, left]),
            (could, [release, PROGRAM, (START,)]), (shows_could, [release, PROGRAM, (START,), table]),
            (Upgrade, [release, "none", "one"]), (plain, [upgrade, START]), (one_end, [upgrade, START]),
            (shows_one_end, [upgrade, START, one_end(upgrade, START)]), (some_order, [upgrade, START]),
            (shows_some_order, [upgrade, START, some_order(upgrade, START)]),
            (fewest, [upgrade, START]), (shows_fewest, [upgrade, START, fewest(upgrade, START)]),
            (choices, [upgrade, FIRST]), (chosen, [upgrade, FIRST, BEGIN]), (good, [upgrade, START]),
            (shows_bad, [upgrade, START, good(upgrade, START)]), (way, [upgrade, START]),
            (shows_way, [upgrade, START, way(upgrade, START)]), (turning, [upgrade, START]),
            (kept, [release, "one"]), (lets, [HOME]), (why_not, [release, "none", "one"]), (skipped, [HOME]),
            (changed, [HOME, HOME]), (House, [release, "none", START]), (show_words, [START]),
            (show_run, [good(upgrade, START)]), (read_run, [show_run(good(upgrade, START))]),
            (show_house, [self.house]), (read_house, [HOME, show_house(self.house)]), (Desk, [HOUSE]),
        ]

    def test_all_that_is_listed_is_called(self):
        called = [call.__name__ for call, _ in self.calls()]
        self.assertEqual(called, [member for members in LISTED.values() for member in members])

    def test_by_position_and_by_name(self):
        for call, arguments in self.calls():
            names = [name for name in inspect.signature(call).parameters][:len(arguments)]
            named = dict(list(zip(names, arguments))[::-1])
            self.assertEqual(plainly(call(*arguments)), plainly(call(**named)), call)
            if call.__name__.startswith("shows"):
                self.assertIs(call(**named), True, call)
        with self.assertRaises(NoProgram):
            program_at(release=self.release, package="p", edition=True, name="before")

    def test_those_behind_a_star_by_name_alone(self):
        leanings = ((("p", "before"), ("p", "behind")),)
        named = Upgrade(leanings=leanings, newer="one", elder="none", release=self.release)
        self.assertEqual(named, Upgrade(self.release, "none", "one", leanings=leanings))
        self.assertEqual(named.leanings, leanings)
        with self.assertRaises(TypeError):
            Upgrade(self.release, "none", "one", leanings)

    def test_stops_moments_and_goals_by_name_alone(self):
        upgrade = self.upgrade
        opened = ((("y",) + START[1:]), (), (), (("p", "before"), "cut"), "on")
        self.assertEqual(chosen(stop=0, choice=BEGIN, moment=FIRST, upgrade=upgrade), opened)
        told = way(to="any", moment=opened, words=START, upgrade=upgrade)
        self.assertEqual(told, way(upgrade, START, moment=opened, to="any"))
        self.assertTrue(shows_way(to="any", moment=opened, value=told, words=START, upgrade=upgrade))
        self.assertEqual(way(upgrade, START), way(upgrade, START, moment=None, to="new"))
        self.assertEqual(way(upgrade, START), way(upgrade, START, moment=FIRST))
        for call in (
            lambda: chosen(upgrade, FIRST, BEGIN, 0), lambda: way(upgrade, START, opened),
            lambda: shows_way(upgrade, START, told, opened),
        ):
            with self.assertRaises(TypeError):
                call()

    def test_methods_by_position_and_by_name(self):
        step = ("p", "before")
        self.assertEqual(self.upgrade.program(step), self.upgrade.program(step=step))
        self.assertEqual(self.upgrade.counter(step), self.upgrade.counter(step=step))
        self.assertEqual(self.upgrade.counter(step), (("set", "a", "z"),))

    def test_methods_of_houses_and_desks_by_name(self):
        house = House(HOME, "none", ("x", "x", "x", "x"))
        house.own(word="y", cell="c")
        house.upgrade(name="one")
        house.do(stop=0, choice=BEGIN_LAY)
        house.do(choice=("again",))
        self.assertEqual(house.tried(look=show_house), show_house(house))
        desk = Desk(text=HOME.text)
        for line in show_house(house).split("\n")[2:]:
            desk.say(line=line)
        self.assertEqual(state(desk.house), state(house))

    def test_calls_do_not_change_a_house(self):
        before = state(self.house)
        for call, arguments in self.calls():
            call(*arguments)
        self.house.wise()
        list(self.house.offers())
        self.assertEqual(state(self.house), before)
        for call in (lambda: self.house.own("c", "y"), lambda: self.house.upgrade("two"), lambda: self.house.do(0)):
            with self.assertRaises(ScriptError):
                call()
        self.assertEqual(state(self.house), before)

    def test_equal_calls_return_equal_results(self):
        for call, arguments in self.calls():
            self.assertEqual(plainly(call(*arguments)), plainly(call(*copy.deepcopy(arguments))), call)
        self.assertEqual(list(self.upgrade.orders()), list(self.upgrade.orders()))

    def test_attributes_are_set_when_an_object_is_made(self):
        for text in (WEB, HOUSE):
            release = Release(text)
            for name in ("text", "cells", "packages", "sets"):
                self.assertTrue(hasattr(release, name))
            for names in (release.cells, release.packages, release.sets):
                self.assertIs(names.__class__, tuple)
        for name in ("release", "elder", "newer", "leanings", "steps"):
            self.assertTrue(hasattr(self.upgrade, name))
        for row in (self.upgrade.leanings, self.upgrade.steps):
            self.assertIs(row.__class__, tuple)
        for house in (House(HOME, "none", ("x", "x", "y", "x")), Desk(WEB).house):
            for name in ("release", "name", "words", "moment", "history"):
                self.assertTrue(hasattr(house, name))

    def test_returned_sequences_are_tuples(self):
        made = (Release, Upgrade, House, Desk, read_house)
        told = [call(*arguments) for call, arguments in self.calls() if call not in made]
        told += [self.house.words, self.house.moment, self.house.history, self.house.wise(), *self.house.offers()]
        told += [self.upgrade.steps, next(self.upgrade.orders()), self.upgrade.program(("p", "lay"))]
        told += [outcome(plain, Upgrade(self.release, "one", "none"), START)]
        told += [some_order(Upgrade(self.release, "one", "none"), START), could(self.release, COUNTER, (START,))]
        while told:
            value = told.pop()
            self.assertIn(value.__class__, (tuple, str, int, bool, type(None)))
            if isinstance(value, tuple):
                told += value

    def test_what_is_handed_in_stays_as_it_was(self):
        values = [*ANY_VALUES, list(PROGRAM), [list(command) for command in PROGRAM], list(START)]
        for value in values:
            before = copy.deepcopy(value)
            for call, arguments in self.calls():
                for place in range(len(arguments)):
                    described = arguments[place].__class__ in (Release, Upgrade, House)
                    if not described and (call, place) not in DESCRIBED:
                        outcome(call, *arguments[:place], value, *arguments[place + 1:])
            outcome(Upgrade, self.release, "none", "one", leanings=value)
            outcome(self.upgrade.program, value)
            outcome(chosen, self.upgrade, FIRST, BEGIN, stop=value)
            outcome(way, self.upgrade, START, moment=value)
            outcome(shows_way, self.upgrade, START, way(self.upgrade, START), moment=value)
            self.assertEqual(repr(value), repr(before))

    def test_calls_do_not_change_the_release_and_the_upgrade(self):
        before = self.told()
        for call, arguments in self.calls():
            call(*arguments)
        list(self.upgrade.orders())
        self.assertEqual(self.told(), before)
        self.assertEqual((self.release.text, self.release.cells), (HOUSE, ("a", "b", "c", "d")))

    def told(self):
        upgrade = self.upgrade
        return [
            program_at(self.release, "p", 1, "before"), program_at(self.release, "p", 0, "at u"),
            first_words(self.release), upgrade.elder, upgrade.newer, upgrade.steps, upgrade.leanings,
            upgrade.program(("p", "before")), upgrade.counter(("p", "before")), list(upgrade.orders()),
        ]


if __name__ == "__main__":
    unittest.main()
