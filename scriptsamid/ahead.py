"""Which steps of an upgrade must be ahead of which, and the orders that this lets."""

from scriptsamid.errors import NoOrder


def pairs_ahead(packages, elder, newer, steps):
    """The pairs of steps, the first ahead of the second, that the rules ask for.

    packages are by their names; the sets elder and newer give the numbers of editions by the names of their packages.
    """
    pairs = [(one, other) for one, other in zip(steps, steps[1:]) if one[0] == other[0]]
    for step in steps:
        name, word = step
        if word == "behind":
            needs = packages[name].edition(newer[name]).needs
            pairs.extend([(other, step) for other in some_steps(steps, needs, ("before", "lay", "behind"))])
        if word == "leaves":
            needs = packages[name].edition(elder[name]).needs
            pairs.extend([(step, other) for other in some_steps(steps, needs, ("leaves", "lay", "gone"))])
    return pairs


def some_steps(steps, names, words):
    """The steps with these words of the packages with these names."""
    return [step for step in steps if step[0] in names and step[1] in words]


def told_order(steps, pairs):
    """The steps, again and again the first one of which all that must be ahead are there; raises NoOrder."""
    told = []
    while len(told) < len(steps):
        step = first_ready(steps, pairs, told)
        if step is None:
            raise NoOrder(ring_among([step for step in steps if step not in told], pairs))
        told.append(step)
    return tuple(told)


def first_ready(steps, pairs, told):
    """The first step that is not told while all that must be ahead of it are, None if there is none."""
    for step in steps:
        if step not in told and all([one in told for one, other in pairs if other == step]):
            return step
    return None


def ring_among(steps, pairs):
    """A ring of these steps, of each of which some other one must be ahead."""
    row = [steps[0]]
    while row[-1] not in row[:-1]:
        row.append([one for one, other in pairs if other == row[-1] and one in steps][0])
    ring = row[row.index(row[-1]) + 1:]
    # The row goes from each step to one that must be ahead of it.
    return tuple(reversed(ring))


def numbers_ahead(steps, pairs):
    """For each step the tuple of the numbers of those that must be ahead of it."""
    return tuple([tuple([steps.index(one) for one, other in pairs if other == step]) for step in steps])


def far_ahead(ahead):
    """For each step the numbers of those that must be ahead of it, also over other steps, ascending."""
    far = []
    for needed in ahead:
        # All that are needed stand ahead in the told order, so their own rows are there already.
        farther = [one for number in needed for one in far[number]]
        far.append(sorted(set(list(needed) + farther)))
    return far


def ready_numbers(ahead, numbers):
    """The numbers of the steps that are not among these while all that must be ahead of them are, ascending."""
    ready = []
    for number, needed in enumerate(ahead):
        if number not in numbers and all([one in numbers for one in needed]):
            ready.append(number)
    return ready


def all_rows(ahead):
    """All rows of the numbers of all steps that keep what must be ahead, ascending."""
    rows = [()]
    for _ in ahead:
        rows = [row + (number,) for row in rows for number in ready_numbers(ahead, row)]
    return rows
