"""Ways: what wise choices can do, whatever stops there are."""

from scriptsamid.errors import Failed
from scriptsamid.moments import choices_at, ends, first_moment, is_moment, place_of, refuse_moment
from scriptsamid.moves import Moves, first_runs
from scriptsamid.programs import refuse_words
from scriptsamid.rows import row_state, told_state
from scriptsamid.runs import good_ends, is_good_end
from scriptsamid.values import is_ascending, is_integer, is_row


def way(upgrade, words, *, moment=None, to="new"):
    """("way", rows) or ("lost", lots); raises BadWords, BadMoment."""
    start = moment_to_start(upgrade, words, moment)
    return told_way(Moves(upgrade), start, goals_towards(upgrade, words, to))


def shows_way(upgrade, words, value, *, moment=None, to="new"):
    """Whether any value shows that there is a way, or that the moment is lost; raises as way."""
    start = moment_to_start(upgrade, words, moment)
    goals = goals_towards(upgrade, words, to)
    if not is_row(value, 2) or not isinstance(value[1], tuple):
        return False
    if value[0] == "way":
        return are_rows(upgrade, value[1]) and are_leading(Moves(upgrade), start, goals, value[1])
    return value[0] == "lost" and are_lots(upgrade, value[1]) and are_lost(Moves(upgrade), start, goals, value[1])


def turning(upgrade, words):
    """For each number of steps of the told order whether, turned behind them, a good end can be reached.

    () if a step fails; raises BadWords.
    """
    refuse_words(upgrade.release, words)
    try:
        told_state(upgrade, words)
    except Failed:
        return ()
    moves = Moves(upgrade)
    goals = goals_towards(upgrade, words, "any")
    told = []
    for many in range(len(upgrade.steps) + 1):
        end, wakes = row_state(upgrade, words, tuple(range(many)))
        start = (end, upgrade.steps[:many], wakes, None, "turned")
        told.append(told_way(moves, start, goals)[0] == "way")
    return tuple(told)


def moment_to_start(upgrade, words, moment):
    """The moment from which a way is asked for; raises BadWords, BadMoment."""
    refuse_words(upgrade.release, words)
    if moment is None:
        return first_moment(words)
    refuse_moment(upgrade, moment)
    return moment


def goals_towards(upgrade, words, to):
    """The words at the ends of the goal, by the ways of these."""
    goals = good_ends(upgrade, words)
    if to == "new":
        del goals["turned"]
    return goals


def is_goal(upgrade, moment, goals):
    """Whether a moment is of the goal."""
    return ends(upgrade, moment) and is_good_end(moment, goals)


def told_way(moves, start, goals):
    """What way tells from a moment, with these goals."""
    found = list(first_runs(moves, start))
    reached = [moment for moment in found if is_goal(moves.plan, moment, goals)]
    before = choices_before(moves, found)
    left = {moment: True for moment in found}
    lots = []
    while True:
        ranks = ranked(before, left, reached)
        lot = sorted([moment for moment in left if moment not in ranks], key=place_of)
        if not lot:
            return "way", rows_from(moves, ranks, start)
        lots.append(tuple(lot))
        if start in lot:
            return "lost", tuple(lots)
        left = {moment: True for moment in ranks}


def choices_before(moves, found):
    """For each of the moments found, which of them come there without a stop, as (moment, choice, results of stops)."""
    before = {moment: [] for moment in found}
    for moment in found:
        for choice, results in moves.choices_behind(moment):
            before[results[0]].append((moment, choice, results[1:]))
    return before


def ranked(before, left, reached):
    """Each moment from which choices lead on to those reached and stops out of none of left, with (choice, rank)."""
    ranks = {moment: (None, 0) for moment in reached}
    layer = reached
    rank = 0
    while layer:
        rank += 1
        layer = next_ranked(before, left, ranks, layer, rank)
    return ranks


def next_ranked(before, left, ranks, layer, rank):
    """The moments of this rank, one choice ahead of a layer and new to ranks, which gets them."""
    behind = []
    for result in layer:
        for moment, choice, stopped in before[result]:
            if moment in left and moment not in ranks and all([other in left for other in stopped]):
                ranks[moment] = (choice, rank)
                behind.append(moment)
    return behind


def rows_from(moves, ranks, start):
    """The rows of a way for all moments to which it may lead from a moment."""
    rows = {}
    layer = [start]
    while layer:
        behind = []
        for moment in layer:
            if moment not in rows:
                choice, rank = ranks[moment]
                rows[moment] = (moment, choice, rank)
                behind.extend([] if choice is None else moves.results(moment, choice))
        layer = behind
    return tuple([rows[moment] for moment in sorted(list(rows), key=place_of)])


def are_rows(upgrade, rows):
    """Whether a tuple is rows with moments, ascending, and ranks, whatever choices there are."""
    for row in rows:
        if not is_row(row, 3) or not is_moment(upgrade, row[0]) or not is_integer(row[2]) or row[2] < 0:
            return False
    return is_ascending([place_of(moment) for moment, _, _ in rows])


def are_leading(moves, start, goals, rows):
    """Whether rows lead from the moment start to the goal, whatever stops there are."""
    ranks = {moment: rank for moment, _, rank in rows}
    return start in ranks and all([leads(moves, goals, ranks, row) for row in rows])


def leads(moves, goals, ranks, row):
    """Whether a row is of the goal, or its choice leads on within the moments of ranks."""
    moment, choice, rank = row
    if is_goal(moves.plan, moment, goals):
        return choice is None and rank == 0
    if choice not in choices_at(moves.plan, moment):
        return False
    results = moves.results(moment, choice)
    return all([result in ranks for result in results]) and ranks[results[0]] < rank


def are_lots(upgrade, lots):
    """Whether a tuple is ascending tuples of moments."""
    for lot in lots:
        if not isinstance(lot, tuple) or not all([is_moment(upgrade, moment) for moment in lot]):
            return False
        if not is_ascending([place_of(moment) for moment in lot]):
            return False
    return True


def are_lost(moves, start, goals, lots):
    """Whether lots, with the moment start in one of them, are left by no choice, if stops are as they can be."""
    earlier = {}
    for lot in lots:
        here = {moment: True for moment in lot}
        here.update(earlier)
        for moment in lot:
            if is_goal(moves.plan, moment, goals) or not is_lost(moves, moment, here, earlier):
                return False
        earlier = here
    return start in earlier


def is_lost(moves, moment, here, earlier):
    """Whether each choice of a moment, stopped, may come to an earlier lot, or comes to here without a stop."""
    return all([
        results[0] in here or any([result in earlier for result in results[1:]])
        for _, results in moves.choices_behind(moment)
    ])
