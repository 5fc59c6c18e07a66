"""Orders: whether all orders of an upgrade come to the same words, and whether there is one in which no step fails."""

from scriptsamid.ahead import ready_numbers
from scriptsamid.programs import refuse_words
from scriptsamid.rows import numbers_of, row_state, step_end, steps_of, told_state
from scriptsamid.values import is_row
from scriptsamid.wakes import words_behind_wakes


def plain(upgrade, words):
    """The words at the end of the told order and the at programs behind it; raises BadWords, Failed, Endless."""
    refuse_words(upgrade.release, words)
    end, wakes = told_state(upgrade, words)
    return words_behind_wakes(upgrade.release, upgrade.newer, end, wakes)


def one_end(upgrade, words):
    """("one", table), ("fails", steps) or ("parts", steps, other); raises BadWords."""
    refuse_words(upgrade.release, words)
    layers = [{(): (words, ())}]
    for _ in upgrade.steps:
        layer, failing = longer_rows(upgrade, layers[-1])
        if failing is not None:
            return "fails", steps_of(upgrade, failing)
        layers.append(layer)
    for layer in layers:
        for row in layer:
            other = exchanged(row)
            if other in layer and layer[other] != layer[row]:
                return "parts", steps_of(upgrade, row), steps_of(upgrade, other)
    return "one", told_table(upgrade, layers)


def shows_one_end(upgrade, words, value):
    """Whether any value shows that all orders come to the same, or that they do not; raises as one_end."""
    refuse_words(upgrade.release, words)
    if is_row(value, 2) and value[0] == "one":
        return value == one_end(upgrade, words)
    if is_row(value, 2) and value[0] == "fails":
        return is_failing(upgrade, words, numbers_of(upgrade, value[1]))
    if is_row(value, 3) and value[0] == "parts":
        return are_parted(upgrade, words, numbers_of(upgrade, value[1]), numbers_of(upgrade, value[2]))
    return False


def some_order(upgrade, words):
    """("order", steps) or ("none", table); raises BadWords."""
    refuse_words(upgrade.release, words)
    # For each place, the numbers of steps done and the words, the least row that comes there, these ascending.
    layers = [{((), words): ()}]
    for _ in upgrade.steps:
        layers.append(next_places(upgrade, layers[-1]))
    whole = list(layers[-1].values())
    if whole:
        return "order", steps_of(upgrade, whole[0])
    places = sorted([place for layer in layers for place in layer])
    return "none", tuple([(steps_of(upgrade, numbers), end) for numbers, end in places])


def shows_some_order(upgrade, words, value):
    """Whether any value shows that there is an order in which no step fails, or none; raises as some_order."""
    refuse_words(upgrade.release, words)
    if not is_row(value, 2):
        return False
    if value[0] == "none":
        return value == some_order(upgrade, words)
    numbers = numbers_of(upgrade, value[1])
    if value[0] != "order" or numbers is None or len(numbers) < len(upgrade.steps):
        return False
    return row_state(upgrade, words, numbers) is not None


def longer_rows(upgrade, layer):
    """The rows, each with its (words, wakes), that are a step longer than those of a layer; and the first that fails.

    Both layers ascend. The layer is not whole if a row fails; otherwise the second is None.
    """
    longer = {}
    for row in layer:
        for number in ready_numbers(upgrade.ahead, row):
            end, wakes, failed = step_end(upgrade, layer[row], number)
            if failed:
                return longer, row + (number,)
            longer[row + (number,)] = (end, wakes)
    return longer, None


def exchanged(row):
    """A row with its last two steps exchanged."""
    return row[:-2] + tuple(reversed(row[-2:]))


def told_table(upgrade, layers):
    """For each set of steps that is done first in some order: its steps, the words and the wakes."""
    found = {}
    for layer in layers:
        for row in layer:
            found[tuple(sorted(row))] = layer[row]
    return tuple([(steps_of(upgrade, numbers),) + found[numbers] for numbers in sorted(found)])


def is_failing(upgrade, words, numbers):
    """Whether numbers, or None, are a row as an order begins of which the last step fails, but none before it."""
    if numbers is None or len(numbers) == 0 or numbers[-1] not in ready_numbers(upgrade.ahead, numbers[:-1]):
        return False
    state = row_state(upgrade, words, numbers[:-1])
    return state is not None and step_end(upgrade, state, numbers[-1])[2]


def are_parted(upgrade, words, one, other):
    """Whether two rows of numbers, or None, are alike but for their last two, which are exchanged, and what is behind.

    The first must be the lesser one, and no step may fail in either.
    """
    if one is None or other is None or not one < other or other != exchanged(one):
        return False
    state, unlike = row_state(upgrade, words, one), row_state(upgrade, words, other)
    return state is not None and unlike is not None and state != unlike


def next_places(upgrade, layer):
    """The places that are one step behind those of a layer, each with the least row there; both layers ascend by rows.

    No step fails in these rows.
    """
    behind = {}
    for numbers, words in layer:
        for number in ready_numbers(upgrade.ahead, numbers):
            end, _, failed = step_end(upgrade, (words, ()), number)
            place = (tuple(sorted(numbers + (number,))), end)
            if not failed and place not in behind:
                behind[place] = layer[numbers, words] + (number,)
    return behind
