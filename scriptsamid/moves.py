"""What comes of the choices of an upgrade, and all moments that runs come to."""

from scriptsamid.moments import choices_at, ends
from scriptsamid.programs import joined, stops, whole_run
from scriptsamid.wakes import trigger_program


class Moves:
    """What comes of each choice at each moment of an upgrade, the plan.

    What was asked once is kept: known, for each moment its choices with their results; and ran, for each program that
    was run from some words what came of it.
    """

    def __init__(self, plan):
        self.plan = plan
        self.known = {}
        self.ran = {}

    def choices_behind(self, moment):
        """The choices of a moment as Python sorts them, each with its results."""
        if moment not in self.known:
            found = sorted(choices_at(self.plan, moment))
            self.known[moment] = [(choice, self.results(moment, choice)) for choice in found]
        return self.known[moment]

    def results(self, moment, choice):
        """The moments behind a choice: without a stop, then with a stop at each cut."""
        words, steps, woken, opened, heading = moment
        if choice == ("turn",):
            return ((words, steps, woken, None, "turned"),)
        target = target_of(choice, steps, opened)
        if choice[0] == "at":
            woken = tuple([trigger for trigger in woken if trigger != choice[1]])
        rest = tuple([step for step in steps if step != target])
        (end, wakes, failed), cuts = self.run(choice[0] == "back", target, words)
        if failed:
            whole = (end, rest, joined(woken, wakes), (target, "failed"), heading)
        else:
            whole = (end, self.steps_behind(choice, target, rest), joined(woken, wakes), None, heading)
        word = "back" if choice[0] == "back" else "cut"
        return (whole,) + tuple([(cut, rest, joined(woken, more), (target, word), heading) for cut, more in cuts])

    def steps_behind(self, choice, target, rest):
        """The steps that are done when the program of a choice came to its end; rest are those without its target."""
        if choice[0] == "back":
            return rest
        return tuple([step for step in self.plan.steps if step in rest or step == target])

    def run(self, backward, target, words):
        """What comes of the program, or backward the counter-program, of a target: its whole run, and its cuts."""
        asked = (backward, target, words)
        if asked not in self.ran:
            release = self.plan.release
            program = program_of(self.plan, backward, target)
            self.ran[asked] = (whole_run(release, program, words), stops(release, program, words))
        return self.ran[asked]


def target_of(choice, steps, opened):
    """What a choice but turn runs a program of: a step, or ("at", trigger)."""
    if choice[0] == "begin":
        return choice[1]
    if choice[0] == "at":
        return choice
    return steps[-1] if opened is None else opened[0]


def program_of(upgrade, backward, target):
    """The program, or backward the counter-program, of a step or of ("at", trigger)."""
    if target[0] == "at":
        return trigger_program(upgrade.release, target[1])
    return upgrade.counter(target) if backward else upgrade.program(target)


def first_runs(moves, start):
    """All moments that runs from a moment come to, by the first runs by size that come there, these ascending by size.

    Each has (moment, choice, stop): the last choice of that run and where it was made; the first moment has None.
    """
    found = {start: None}
    layer = [start]
    while layer:
        layer = next_moments(moves, found, layer)
    return found


def next_moments(moves, found, layer):
    """The moments one choice behind those of a layer that are new to found, which gets them."""
    behind = []
    for moment in layer:
        for choice, results in moves.choices_behind(moment):
            for number, result in enumerate(results):
                if result not in found:
                    found[result] = (moment, choice, None if number == 0 else number - 1)
                    behind.append(result)
    return behind


def run_to(found, moment):
    """The run, as a tuple of (choice, stop), by which a moment was found."""
    run = ()
    while found[moment] is not None:
        moment, choice, stop = found[moment]
        run = ((choice, stop),) + run
    return run


def ending_moments(moves, found):
    """Those of the moments found from which some choices without stops lead to an end, as the keys of a dict."""
    before = {moment: [] for moment in found}
    for moment in found:
        for _, results in moves.choices_behind(moment):
            before[results[0]].append(moment)
    layer = [moment for moment in found if ends(moves.plan, moment)]
    ending = {moment: True for moment in layer}
    while layer:
        behind = [moment for result in layer for moment in before[result]]
        layer = []
        for moment in behind:
            if moment not in ending:
                ending[moment] = True
                layer.append(moment)
    return ending
