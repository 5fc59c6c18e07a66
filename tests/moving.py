"""Section 11 told once more, slowly and by its words, for tests that compare."""

from scriptsamid.errors import ScriptError
from scriptsamid.orders import plain
from scriptsamid.programs import cuts, done, is_words, program_at
from samples import both


def homes(release):
    """The packages of the triggers, read off the text."""
    found, name = {}, None
    for line in release.text.split("\n"):
        if line.startswith("package "):
            name = line.split()[1]
        if line.startswith("  at "):
            found[line.split()[1]] = name
    return found


def is_there(upgrade, trigger, way):
    """Whether the package of a trigger is in the set that counts, read off the text."""
    name = upgrade.newer if way == "on" else upgrade.elder
    for line in upgrade.release.text.split("\n"):
        if line.startswith("set ") and line.split()[1] == name:
            return homes(upgrade.release)[trigger] in line.split()[2::2]
    raise AssertionError(name)


def ahead_of(upgrade, step):
    """The steps that stand ahead of a step in every order."""
    orders = list(upgrade.orders())
    return [one for one in upgrade.steps if all(order.index(one) < order.index(step) for order in orders)]


def is_form(upgrade, value):
    """Whether any value has the form of a moment of the upgrade."""
    if not isinstance(value, tuple) or len(value) != 5:
        return False
    words, steps, woken, opened, way = value
    tuples = all(isinstance(part, tuple) for part in (words, steps, woken))
    if not tuples or not is_words(upgrade.release, words) or way not in ("on", "turned"):
        return False
    if list(steps) != [step for step in upgrade.steps if step in steps]:
        return False
    if any(one not in steps for step in steps for one in ahead_of(upgrade, step)):
        return False
    if list(woken) != [trigger for trigger in sorted(homes(upgrade.release)) if trigger in woken]:
        return False
    return opened is None or isinstance(opened, tuple) and len(opened) == 2 and can_be_open(upgrade, steps, opened, way)


def can_be_open(upgrade, steps, opened, way):
    target, word = opened
    if target in upgrade.steps:
        ready = target not in steps and all(one in steps for one in ahead_of(upgrade, target))
        return ready and word in ("cut", "failed", "back")
    if target not in [("at", trigger) for trigger in homes(upgrade.release)] or word not in ("cut", "failed"):
        return False
    return steps == (upgrade.steps if way == "on" else ()) and is_there(upgrade, target[1], way)


def all_choices(upgrade):
    """All that could be a choice somewhere, in the sequence of the table."""
    begins = [("begin", step) for step in upgrade.steps]
    return begins + [("again",), ("back",), ("turn",)] + [("at", name) for name in sorted(homes(upgrade.release))]


def at_an_edge(upgrade, moment):
    """Whether nothing is open, and all steps are done on the way on, or none when turned."""
    _, steps, _, opened, way = moment
    return opened is None and steps == (upgrade.steps if way == "on" else ())


def ends(upgrade, moment):
    waiting = [trigger for trigger in moment[2] if is_there(upgrade, trigger, moment[4])]
    return at_an_edge(upgrade, moment) and not waiting


def is_choice(upgrade, moment, choice):
    """What stands below When."""
    _, steps, woken, opened, way = moment
    word = None if opened is None else opened[1]
    on_trigger = opened is not None and opened[0][0] == "at"
    if ends(upgrade, moment):
        return False
    if choice[0] == "begin":
        ready = choice[1] not in steps and all(step in steps for step in ahead_of(upgrade, choice[1]))
        return way == "on" and opened is None and ready
    if choice[0] == "again":
        return word == "cut"
    if choice[0] == "back":
        return opened is not None and not on_trigger or way == "turned" and opened is None and steps != ()
    if choice[0] == "turn":
        return way == "on" and opened is None
    return at_an_edge(upgrade, moment) and choice[1] in woken and is_there(upgrade, choice[1], way)


def choices(upgrade, moment):
    return tuple(choice for choice in all_choices(upgrade) if is_choice(upgrade, moment, choice))


def program_to_run(upgrade, moment, choice):
    """The program that a choice runs, and what it is a program of."""
    _, steps, _, opened, _ = moment
    if choice[0] == "back":
        step = steps[-1] if opened is None else opened[0]
        return upgrade.counter(step), step
    target = {"begin": choice[-1], "at": choice}.get(choice[0]) or opened[0]
    if target[0] == "at":
        return program_at(upgrade.release, homes(upgrade.release)[target[1]], 0, f"at {target[1]}"), target
    return upgrade.program(target), target


def behind(upgrade, moment, choice, stop=None):
    """What stands below What comes of it."""
    words, steps, woken, _, way = moment
    if choice == ("turn",):
        return (words, steps, woken, None, "turned")
    program, target = program_to_run(upgrade, moment, choice)
    if choice[0] == "at":
        woken = tuple(trigger for trigger in woken if trigger != choice[1])
    rest = tuple(step for step in steps if step != target)
    if stop is not None:
        words, wakes = cuts(upgrade.release, program, words)[stop]
        return (words, rest, both(woken, wakes), (target, "back" if choice == ("back",) else "cut"), way)
    words, wakes, failed = done(upgrade.release, program, words)
    if failed:
        return (words, rest, both(woken, wakes), (target, "failed"), way)
    if choice != ("back",) and target in upgrade.steps:
        rest = tuple(step for step in upgrade.steps if step in rest or step == target)
    return (words, rest, both(woken, wakes), None, way)


def stops(upgrade, moment, choice):
    """None and the numbers of the cuts of a choice."""
    if choice == ("turn",):
        return [None]
    program, _ = program_to_run(upgrade, moment, choice)
    return [None, *range(len(cuts(upgrade.release, program, moment[0])))]


def first(words):
    return (words, (), (), None, "on")


class Map:
    """All moments that runs come to from one, with what comes of each choice there."""

    def __init__(self, upgrade, start):
        self.upgrade = upgrade
        self.start = start
        self.moves = {}
        waiting = [start]
        while waiting:
            moment = waiting.pop()
            if moment not in self.moves:
                self.moves[moment] = {
                    choice: [behind(upgrade, moment, choice, stop) for stop in stops(upgrade, moment, choice)]
                    for choice in choices(upgrade, moment)
                }
                waiting += [result for results in self.moves[moment].values() for result in results]
        self.ends = {moment for moment in self.moves if ends(upgrade, moment)}

    def ending(self):
        """The moments from which choices without stops lead to an end."""
        found = set(self.ends)
        while True:
            more = {
                moment for moment, moves in self.moves.items()
                if any(results[0] in found for results in moves.values())
            }
            if more <= found:
                return found
            found |= more

    def goals(self, words, to="any"):
        """The good ends."""
        try:
            new = plain(self.upgrade, words)
        except ScriptError:
            new = None
        good = {(new, "on"), (words, "turned")} if to == "any" else {(new, "on")}
        return {moment for moment in self.ends if (moment[0], moment[4]) in good}

    def bad(self, words):
        """The moments to which no run may come."""
        return (self.ends - self.goals(words)) | (set(self.moves) - self.ending())

    def first_runs(self):
        """For each moment the first run by size that comes there, found by making runs shorter or less."""
        best = {self.start: ()}
        changed = [self.start]
        while changed:
            moment = changed.pop(0)
            for choice, results in self.moves[moment].items():
                for number, result in enumerate(results):
                    run = best[moment] + ((choice, None if number == 0 else number - 1),)
                    if result not in best or by_size(run) < by_size(best[result]):
                        best[result] = run
                        changed.append(result)
        return best

    def won(self, goals):
        """The moments from which wise choices lead to goals, whatever stops there are."""
        won = set(self.moves)
        while True:
            led = set(goals)
            more = None
            while more is None or not more <= led:
                led |= more or set()
                more = {
                    moment for moment, moves in self.moves.items()
                    if moment in won and any(
                        results[0] in led and all(result in won for result in results)
                        for results in moves.values()
                    )
                }
            if led == won:
                return won
            won = led


def by_size(run):
    """By what runs are compared: None is less than a number."""
    return len(run), [(choice, -1 if stop is None else stop) for choice, stop in run]
