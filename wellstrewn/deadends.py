"""Going through the STATES of a SHUFFLE, and going on from one till no DEED is left."""

from wellstrewn.errors import TooMany
from wellstrewn.plays import Walk, start_state, state_behind

MOST_STATES = 20000


def deeds_to(came, state):
    """The PLAY to a STATE, where the dict has for each one the STATE ahead and the DEED, None for the first one."""
    play = []
    while came[state] is not None:
        state, deed = came[state]
        play.append(deed)
    return tuple(play[::-1])


def states_next(came, steps):
    """The list of the STATES to which steps, (STATE, its DEEDS), lead first; they are put into the dict came."""
    later = []
    for state, deeds in steps:
        for deed in deeds:
            other = state_behind(state, deed)
            if other not in came:
                came[other] = (state, deed)
                later.append(other)
            if len(came) > MOST_STATES:
                raise TooMany(MOST_STATES)
    return later


def shortest_dead_end(book, shuffle):
    """A PLAY without "leave" to a DEAD END, with as few DEEDS as can be, None if there is none."""
    walk = Walk(book, shuffle)
    level = [start_state()]
    came = {state: None for state in level}
    while level:
        steps = [(state, walk.deeds(state)) for state in level]
        for state, deeds in steps:
            if deeds == () and walk.not_reached(state) != []:
                return deeds_to(came, state)
        level = states_next(came, steps)
    return None


def gone_on(book, shuffle, state, at):
    """The tuple of the DEEDS that are done from a STATE on if each time the one at this index is, till none is left."""
    walk = Walk(book, shuffle)
    play = []
    deeds = walk.deeds(state)
    while deeds != ():
        play.append(deeds[at])
        state = state_behind(state, deeds[at])
        deeds = walk.deeds(state)
    return tuple(play)


def finish(book, shuffle, state):
    """The tuple of the DEEDS that are done from a STATE on if each time the first one is, till none is left."""
    return gone_on(book, shuffle, state, 0)


def hasty(book, shuffle, state):
    """The tuple of the DEEDS that are done from a STATE on if each time the last one is, till none is left."""
    return gone_on(book, shuffle, state, -1)


def foolish(book, shuffle, state, choices):
    """The tuple of the DEEDS that are done from a STATE on as choices tell, till none of these or of DEEDS is left."""
    walk = Walk(book, shuffle)
    play = []
    for choice in choices:
        deeds = walk.deeds(state)
        if deeds == ():
            break
        deed = deeds[choice % len(deeds)]
        play.append(deed)
        state = state_behind(state, deed)
    return tuple(play)


def left_open(book, shuffle, state):
    """The LOTS of the SPOTS and of the HALLS of players who are not gone that are not REACHED."""
    rows = Walk(book, shuffle).not_reached(state)
    return (tuple([row for row in rows if len(row) == 2]), tuple([row for row in rows if len(row) == 3]))
