"""Releases and upgrades that are thrown together, the same ones for the same number."""

import itertools
import random

from scriptsamid.errors import ScriptError
from scriptsamid.releases import Release
from scriptsamid.upgrades import Upgrade
from samples import edition, package, text_of

CELLS = ("cell a x y", "cell b x y", "cell c x y own")
TRIGGERS = "tu"
NAMES = ("before", "behind", "behind", "leaves", "gone")


def some_command(dice):
    """A command over CELLS and TRIGGERS, as the lines of a text."""
    kind = dice.randrange(12)
    cell, other = dice.choice("ab"), dice.choice("abc")
    if kind < 4:
        return [f"set {cell} {dice.choice('xy')}"]
    if kind < 7:
        return [f"copy {other} to {cell}"]
    if kind < 8:
        return [f"wake {dice.choice(TRIGGERS)}"]
    if kind < 9:
        return [f"if {other} = {dice.choice('xy')}", "  fail"]
    return [f"if {other} = {dice.choice('xy')}", f"  set {cell} {dice.choice('xy')}", "else", f"  copy a to {cell}"]


def some_commands(dice):
    """The lines of one or two commands."""
    return [line for _ in range(dice.randint(1, 2)) for line in some_command(dice)]


def some_edition(dice, needs):
    """The lines below an edition with one or two programs, whose counter-programs set a cell as it was, or do not."""
    programs = []
    for name in sorted({dice.choice(NAMES) for _ in range(2)}):
        programs.append((name, *some_commands(dice)))
        if dice.randrange(3) > 0:
            programs.append((f"back {name}", *some_commands(dice)))
    lays = [f"{cell} {dice.choice('xy')}" for cell in "ab" if dice.randrange(3) == 0]
    return edition(needs=needs if dice.randrange(2) else (), lays=lays, programs=programs)


def some_text(dice):
    """A text that is often one of a release."""
    parts = [
        package("p", some_edition(dice, ()), some_edition(dice, ()), triggers=[("t", *some_commands(dice))]),
        package("q", some_edition(dice, ["p"]), triggers=[("u", *some_commands(dice))]),
    ]
    sets = ["set none"]
    for name in ("one", "two"):
        members = [f"p {dice.randint(1, 2)}"] if dice.randrange(4) else []
        sets.append(" ".join(["set", name, *members, *(["q 1"] if dice.randrange(3) else [])]))
    return text_of(cells=CELLS, packages=[line for part in parts for line in part], sets=sets)


def some_release(number):
    """The release of a number."""
    dice = random.Random(number)
    while True:
        try:
            return Release(some_text(dice))
        except ScriptError:
            pass


def some_upgrades(numbers):
    """Upgrades of the releases of these numbers, with words."""
    for number in numbers:
        release = some_release(number)
        dice = random.Random(number)
        for elder, newer in itertools.permutations(release.sets, 2):
            yield Upgrade(release, elder, newer), tuple(dice.choice("xy") for _ in release.cells)
