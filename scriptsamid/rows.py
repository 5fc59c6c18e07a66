"""Rows of steps, each as an order begins, and what is behind them; a row may be told by the numbers of its steps."""

from scriptsamid.ahead import ready_numbers
from scriptsamid.errors import Failed
from scriptsamid.programs import joined, whole_run


def steps_of(upgrade, numbers):
    """The tuple of the steps with these numbers in the told order."""
    return tuple([upgrade.steps[number] for number in numbers])


def numbers_of(upgrade, value):
    """The tuple of the numbers of a tuple of steps; None for any other value."""
    if not isinstance(value, tuple) or not all([step in upgrade.steps for step in value]):
        return None
    return tuple([upgrade.steps.index(step) for step in value])


def step_end(upgrade, state, number):
    """What is behind the run of a step from a state (words, wakes): (words, wakes, failed), with all wakes so far."""
    words, wakes = state
    end, more, failed = whole_run(upgrade.release, upgrade.programs[number], words)
    return end, joined(wakes, more), failed


def row_state(upgrade, words, numbers):
    """The (words, wakes) behind a row of steps; None if no order begins so, or a step of it fails."""
    state = (words, ())
    for place, number in enumerate(numbers):
        if number not in ready_numbers(upgrade.ahead, numbers[:place]):
            return None
        end, wakes, failed = step_end(upgrade, state, number)
        if failed:
            return None
        state = (end, wakes)
    return state


def told_state(upgrade, words):
    """The (words, wakes) behind the told order; raises Failed with the step that fails."""
    state = (words, ())
    for number, step in enumerate(upgrade.steps):
        end, wakes, failed = step_end(upgrade, state, number)
        if failed:
            raise Failed(step)
        state = (end, wakes)
    return state
