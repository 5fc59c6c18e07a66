"""Which steps an upgrade from one set to another one has, and their programs."""


def package_steps(name, elder, newer):
    """The steps of a package that goes from its edition elder to newer, each None if the package is not there."""
    leaving = [] if elder is None else list(elder.programs)
    coming = [] if newer is None else list(newer.programs)
    steps = []
    if "leaves" in leaving:
        steps.append((name, "leaves"))
    if "before" in coming:
        steps.append((name, "before"))
    steps.append((name, "lay"))
    if "gone" in leaving:
        steps.append((name, "gone"))
    if "behind" in coming:
        steps.append((name, "behind"))
    return tuple(steps)


def upgrade_steps(packages, elder, newer):
    """All steps from the set elder to the set newer, by the sequence of the packages and of their steps.

    packages are by their names, in their sequence; a set gives the numbers of editions by the names of its packages.
    """
    steps = []
    for name in packages:
        one, other = elder.get(name), newer.get(name)
        if one != other:
            package = packages[name]
            steps.extend(package_steps(name, package.edition(one), package.edition(other)))
    return tuple(steps)


def lay_program(words_of, elder, newer):
    """The program that lays what the edition newer lays in place of what elder lays, each None if it is not there.

    words_of are the words of the cells by their names.
    """
    taken = [] if elder is None else [("set", cell, words_of[cell][0]) for cell, _ in elder.lays]
    laid = [] if newer is None else [("set", cell, word) for cell, word in newer.lays]
    return tuple(taken + laid)


def step_programs(words_of, word, elder, newer):
    """The program and the counter-program of the step with this word of a package that goes from elder to newer."""
    if word == "lay":
        return lay_program(words_of, elder, newer), lay_program(words_of, newer, elder)
    edition = elder if word in ("leaves", "gone") else newer
    return edition.programs[word], edition.programs.get("back " + word, ())
