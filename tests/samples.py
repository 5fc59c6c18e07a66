"""Releases and values that several tests use."""

from scriptsamid.errors import ScriptError
from scriptsamid.releases import Release

WEB = """cell mode off slow fast
cell log none a b
cell look light dark own
package base
  edition 1
    lays log a
  edition 2
    lays log b
    behind
      wake index
package web
  edition 1
    needs base
    behind
      if log = b
        set mode fast
      else
        set mode slow
    back behind
      set mode off
    leaves
      set mode off
  at index
    if mode = slow
      set mode fast
set empty
set first base 1
set second base 2 web 1"""

# Every kind of line stands here; each cell has two words, so that no word can be left out.
FULL = """cell a x y
cell b x y
cell c x y own
package p
  edition 1
    needs q
    lays a y
    before
      set a y
      copy a to b
      wake t
      if a = y
        fail
      else
        set b y
    back before
      set a x
  edition 2
  at t
    set c x
package q
  edition 1
set none
set all p 1 q 1"""

# Three cells of the same words and one of others, two triggers, for programs of all kinds.
HOUSE = """cell a x y z
cell b x y z
cell c x y own
cell d y x
package p
  edition 1
    before
      set a y
    behind
      wake u
    leaves
      fail
    gone
      set a x
    back before
      set a z
    back behind
      set b x
    back leaves
      set b y
    back gone
      set b z
  edition 2
    behind
      copy a to b
  at t
    set a z
  at u
    if a = x
      set b y
    else
      wake t
package q
  edition 1
set none
set one p 1
set two p 2 q 1"""


def nested(depth):
    """A tuple in a tuple in a tuple, so many deep."""
    value = ()
    for _ in range(depth - 1):
        value = (value,)
    return value


def listed(depth):
    """A list in a dict in a list, so many deep."""
    value = []
    for k in range(depth - 1):
        value = {"a": value} if k % 2 else [value]
    return value


ANY_VALUES = [
    0, 1, -1, 10 ** 30, True, False, None, "", "x", "a x", "at t", "set",
    (), ("x",), ("x", "x"), ((),), (True,), (None, 1), [], ["x"], [[]], {}, {"a": "x"}, {1: [()]},
    (["x"], {"a": ()}), nested(40), listed(40),
]


def refusal(text):
    """How a text is refused, as (name of the error, value); None if it is read."""
    try:
        Release(text)
    except ScriptError as error:
        return (error.__class__.__name__, error.value)
    return None


def text_of(*, cells=("cell a x y", "cell b x y"), packages=("package p", "  edition 1"), sets=("set none",)):
    """The text of a release with these lines."""
    return "\n".join([*cells, *packages, *sets])


def text_with(*commands):
    """The text of a release with a program of these commands, the first of them on line 5."""
    below = [f"      {command}" for command in commands]
    return text_of(packages=["package p", "  edition 1", "    before", *below, "  at t", "    fail"])
