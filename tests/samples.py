"""Releases and values that several tests use."""

import itertools

from scriptsamid.errors import ScriptError
from scriptsamid.programs import cuts, done
from scriptsamid.releases import Release
from scriptsamid.upgrades import Upgrade

WEB = """cell mode off slow fast
cell log none a b
cell look light dark own
package base
  edition 1
    lays log a
  edition 2
    lays log b
    behind
      wake index
package web
  edition 1
    needs base
    behind
      if log = b
        set mode fast
      else
        set mode slow
    back behind
      set mode off
    leaves
      set mode off
  at index
    if mode = slow
      set mode fast
set empty
set first base 1
set second base 2 web 1"""

# Every kind of line stands here; each cell has two words, so that no word can be left out.
FULL = """cell a x y
cell b x y
cell c x y own
package p
  edition 1
    needs q
    lays a y
    before
      set a y
      copy a to b
      wake t
      if a = y
        fail
      else
        set b y
    back before
      set a x
  edition 2
  at t
    set c x
package q
  edition 1
set none
set all p 1 q 1"""

# Three cells of the same words and one of others, two triggers, for programs of all kinds.
HOUSE = """cell a x y z
cell b x y z
cell c x y own
cell d y x
package p
  edition 1
    before
      set a y
    behind
      wake u
    leaves
      fail
    gone
      set a x
    back before
      set a z
    back behind
      set b x
    back leaves
      set b y
    back gone
      set b z
  edition 2
    behind
      copy a to b
  at t
    set a z
  at u
    if a = x
      set b y
    else
      wake t
package q
  edition 1
set none
set one p 1
set two p 2 q 1"""


def nested(depth):
    """A tuple in a tuple in a tuple, so many deep."""
    value = ()
    for _ in range(depth - 1):
        value = (value,)
    return value


def listed(depth):
    """A list in a dict in a list, so many deep."""
    value = []
    for k in range(depth - 1):
        value = {"a": value} if k % 2 else [value]
    return value


ANY_VALUES = [
    0, 1, -1, 10 ** 30, True, False, None, "", "x", "a x", "at t", "set",
    (), ("x",), ("x", "x"), ((),), (True,), (None, 1), [], ["x"], [[]], {}, {"a": "x"}, {1: [()]},
    (["x"], {"a": ()}), nested(40), listed(40),
]


def refusal(text):
    """How a text is refused, as (name of the error, value); None if it is read."""
    try:
        Release(text)
    except ScriptError as error:
        return (error.__class__.__name__, error.value)
    return None


def text_of(*, cells=("cell a x y", "cell b x y"), packages=("package p", "  edition 1"), sets=("set none",)):
    """The text of a release with these lines."""
    return "\n".join([*cells, *packages, *sets])


def text_with(*commands):
    """The text of a release with a program of these commands, the first of them on line 5."""
    below = [f"      {command}" for command in commands]
    return text_of(packages=["package p", "  edition 1", "    before", *below, "  at t", "    fail"])


# Two cells of the same words and two triggers, for the tests that try all programs of a few commands.
PAIR = text_of(packages=["package p", "  edition 1", "  at t", "    fail", "  at u", "    set a y"])
PAIR_WORDS = [("x", "x"), ("x", "y"), ("y", "x"), ("y", "y")]
PAIR_COMMANDS = [
    ("set", "a", "y"), ("set", "b", "x"), ("copy", "a", "b"), ("wake", "t"), ("fail",),
    ("if", "a", "x", (("wake", "u"), ("set", "b", "y")), ()), ("if", "b", "y", (("fail",),), (("set", "a", "x"),)),
]


def some_programs(most, stride):
    """Programs of at most so many of PAIR_COMMANDS, those of the greatest number by strides."""
    short = [row for many in range(most) for row in itertools.product(PAIR_COMMANDS, repeat=many)]
    return short + list(itertools.product(PAIR_COMMANDS, repeat=most))[::stride]


def both(wakes, more):
    """The ascending tuple of the triggers of both."""
    return tuple(sorted({*wakes, *more}))


def rows_of_cuts(release, program, start, most):
    """All rows of at most so many numbers of cuts, by size, each with the (words, wakes) behind it."""
    layer = [((), start)]
    for _ in range(most + 1):
        yield from layer
        layer = [
            (row + (number,), (cut, both(wakes, more)))
            for row, (words, wakes) in layer
            for number, (cut, more) in enumerate(cuts(release, program, words))
        ]


def bent(value):
    """Values that are like a tuple but for one part, or its kind, or its sequence."""
    yield list(value)
    yield value + value[:1]
    yield value[:-1]
    for place in range(len(value)):
        yield value[:place] + ([value[place]],) + value[place + 1:]
        yield value[:place] + (None,) + value[place + 1:]
        if isinstance(value[place], tuple) and value[place]:
            for part in bent(value[place]):
                yield value[:place] + (part,) + value[place + 1:]


def edition(*, needs=(), lays=(), programs=()):
    """The lines below an edition; each program is its name and then its commands."""
    lines = [f"    needs {need}" for need in needs] + [f"    lays {laid}" for laid in lays]
    for name, *commands in programs:
        lines += [f"    {name}"] + [f"      {command}" for command in commands]
    return lines


def package(name, *editions, triggers=()):
    """The lines of a package; each at program is its trigger and then its commands."""
    lines = [f"package {name}"]
    for number, below in enumerate(editions):
        lines += [f"  edition {number + 1}"] + below
    for trigger, *commands in triggers:
        lines += [f"  at {trigger}"] + [f"    {command}" for command in commands]
    return lines


def town(*sets):
    """A release with these sets behind an empty one; p has all programs in one edition, q needs p, and r needs both."""
    first = edition(lays=["a y"], programs=[
        ("before", "set b y"), ("back before", "set b x"), ("behind", "copy a to b", "wake t"),
        ("leaves", "set c z"), ("back leaves", "set c x"), ("gone", "wake u"), ("back gone", "fail"),
    ])
    second = edition(lays=["b y", "a y"], programs=[("behind", "set c y"), ("back behind", "set c x")])
    parts = [
        package("p", first, second, triggers=[("t", "set c y")]),
        package(
            "q",
            edition(needs=["p"], lays=["c y"], programs=[("leaves", "copy b to a"), ("behind", "copy a to b")]),
            edition(needs=["p"], programs=[("behind", "if a = y", "  wake t"), ("gone", "set a x")]),
            triggers=[("u", "set a y")],
        ),
        package("r", edition(needs=["p", "q"], programs=[("behind", "set b x")]), edition(programs=[("gone", "fail")])),
    ]
    lines = [f"set {name}{members}" for name, members in zip(("none", "one", "two", "three"), ("",) + sets)]
    cells = ["cell a x y", "cell b x y", "cell c x y z"]
    return Release(text_of(cells=cells, packages=[line for part in parts for line in part], sets=lines))


TOWNS = [(" p 1", " p 2 q 1", " p 2"), (" p 2 q 2", " p 2 q 1 r 1", " p 2"), (" p 2 q 2 r 2", " r 2", " p 2 q 1 r 2")]


def upgrade_of(packages, *, cells=("cell a x y", "cell b x y"), elder=(), newer=("p 1", "q 1"), leanings=()):
    """The upgrade from one to the other of two sets of such packages."""
    sets = ["set none", " ".join(["set elder", *elder]), " ".join(["set newer", *newer])]
    lines = [line for part in packages for line in part]
    return Upgrade(Release(text_of(cells=cells, packages=lines, sets=sets)), "elder", "newer", leanings=leanings)


def pair_of(one, other, **sets):
    """The upgrade to p and q with these commands behind, with triggers t of p and u of q."""
    parts = [
        package("p", edition(programs=[("behind", *one)]), triggers=[("t", "set a y")]),
        package("q", edition(programs=[("behind", *other)]), triggers=[("u", "set b y")]),
    ]
    return upgrade_of(parts, **sets)


def one_of(behind, back, *triggers, lays=()):
    """The upgrade to p alone with these commands behind, their counter-program and at programs."""
    programs = [("behind", *behind)] + ([("back behind", *back)] if back else [])
    return upgrade_of([package("p", edition(lays=lays, programs=programs), triggers=triggers)], newer=["p 1"])


XX, XY, YX, YY = list(itertools.product("xy", repeat=2))
PL, PB, QL, QB = ("p", "lay"), ("p", "behind"), ("q", "lay"), ("q", "behind")
PARTS = pair_of(["set a y"], ["copy a to b"])
WAKING = pair_of(["set a y"], ["if a = y", "  wake u"])
# Behind p, q fails.
FAILING = pair_of(["set a y"], ["if a = y", "  fail"])
BAD = pair_of(["set a y"], ["fail"])
ALIKE = pair_of(["set a y", "wake u"], ["set b y", "wake t"])
LAID = one_of(["set b y"], ["set b x"], lays=["a y"])
# Behind its first cut the at program fails when it is run again; all else goes well.
STUCK = one_of(
    ["set a y", "wake t"], ["set a x"], ("t", "if a = x", "  fail", "else", "  set a x", "  set b y"),
)
# Stopped and run again without a stop the at program fails; stopped once more and run again it does not.
TWICE = one_of(["wake t"], [], ("t", "if b = x", "  set b y", "else", "  if a = x", "    set a y", "    fail"))
# Turned, the at program of q, which both sets have, wakes itself for ever.
LOOPING = upgrade_of([
    package("p", edition(lays=["a y"], programs=[("behind", "wake t")])),
    package("q", edition(), triggers=[("t", "if a = x", "  wake t")]),
], elder=["q 1"], newer=["p 1", "q 1"])
UNTAKEN = one_of(["set a y"], [])


def town_upgrades():
    """Upgrades of several releases, with words."""
    for sets in TOWNS:
        release = town(*sets)
        for elder, newer in itertools.permutations(release.sets, 2):
            for words in (("x", "x", "x"), ("y", "x", "z"), ("x", "y", "y")):
                yield Upgrade(release, elder, newer), words
    for upgrade in (PARTS, WAKING, FAILING, BAD, ALIKE):
        for words in (XX, XY, YX, YY):
            yield upgrade, words


def row_end(upgrade, words, row):
    """The (words, wakes) behind a row of steps, None if a step fails."""
    wakes = ()
    for step in row:
        words, more, failed = done(upgrade.release, upgrade.program(step), words)
        if failed:
            return None
        wakes = both(wakes, more)
    return words, wakes


def numbered(upgrade, row):
    """The numbers of the steps of a row in the told order."""
    return tuple(upgrade.steps.index(step) for step in row)
