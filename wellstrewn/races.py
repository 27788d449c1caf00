"""LOGS of races: judged DEED by DEED, and those of all players joined."""

from wellstrewn.errors import NoDeed
from wellstrewn.forms import is_count, is_deed, is_row
from wellstrewn.plays import Walk, start_state, state_behind, states_of


def is_log(book, thing):
    """Whether any value is a LOG."""
    if not isinstance(thing, tuple) or not all([is_row(row, 2) and is_count(row[0]) for row in thing]):
        return False
    if not all([one[0] <= other[0] for one, other in zip(thing, thing[1:])]):
        return False
    return all([is_deed(book, deed) for _, deed in thing])


def states_along(book, shuffle, log):
    """The tuple of the STATES along a LOG: the first one, then that behind each DEED."""
    return tuple(states_of(book, shuffle, [deed for _, deed in log]))


def state_at(book, shuffle, log, tick):
    """The STATE behind all DEEDS of a LOG whose ticks are at most a tick."""
    states = states_along(book, shuffle, log)
    return states[len([row for row in log if row[0] <= tick])]


def judged(book, shuffle, log):
    """None if the DEEDS of a LOG are a PLAY, otherwise the index of the first one that may not be done."""
    try:
        states_along(book, shuffle, log)
    except NoDeed as error:
        return error.index
    return None


def next_rows(logs, come):
    """The list of (player, index) of the players' next rows with the least tick, come having the next indexes."""
    rows = [(w, k) for w, k in enumerate(come) if k < len(logs[w])]
    ticks = [logs[w][k][0] for w, k in rows]
    return [row for row, tick in zip(rows, ticks) if tick == min(ticks)]


def logs_joined(book, shuffle, logs):
    """How far one comes in joining LOGS: the rows taken, and the list of (player, index) of those that are barred."""
    walk = Walk(book, shuffle)
    state = start_state()
    come = [0 for _ in logs]
    taken = []
    rows = next_rows(logs, come)
    while rows != []:
        free = [w for w, k in rows if walk.may(state, logs[w][k][1])]
        if free == []:
            return (tuple(taken), rows)
        w = free[0]
        taken.append(logs[w][come[w]])
        state = state_behind(state, taken[-1][1])
        come[w] += 1
        rows = next_rows(logs, come)
    return (tuple(taken), rows)


def joined_log(book, shuffle, logs):
    """The JOINED LOG of the players' LOGS in which the least player stands ahead, None if there is none."""
    log, barred = logs_joined(book, shuffle, logs)
    return log if barred == [] else None


def barred_in(book, shuffle, logs):
    """The LOT of (player, index) of the rows where joining LOGS comes to its end, () if there is a JOINED LOG."""
    return tuple(logs_joined(book, shuffle, logs)[1])
