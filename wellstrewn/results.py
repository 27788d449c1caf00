"""What comes of a race: who is DONE when, when things are HELD, and who waited how long."""

from wellstrewn.places import places_of
from wellstrewn.plays import Walk
from wellstrewn.races import states_along


class Course:
    """The STATES along a LOG, with the TIME of each."""

    def __init__(self, book, shuffle, log):
        self.states = states_along(book, shuffle, log)
        self.times = [0] + [tick for tick, _ in log]
        self.walk = Walk(book, shuffle)
        self.players = list(range(len(book[0])))

    def pairs(self):
        """The list of the pairs (TIME, STATE)."""
        return list(zip(self.times, self.states))

    def still_going(self, state):
        """The list of the players who have not left, and are not DONE, in a STATE."""
        off = [row[0] for row in self.walk.not_reached(state)]
        return [w for w in self.players if w in off]

    def are_done(self, state):
        """The list of the players who have not left, and are DONE, in a STATE."""
        going = self.still_going(state)
        return [w for w in self.players if w not in going and w not in state[2]]

    def are_waiting(self, state):
        """The list of the players who have not left, are not DONE, and may do no DEED but "leave" in a STATE."""
        able = [deed[1][0] for deed in self.walk.deeds(state)]
        return [w for w in self.still_going(state) if w not in able]


def finish_ticks(book, shuffle, log):
    """For each player the TIME of the first STATE in which they are DONE and have not left, None if there is none."""
    course = Course(book, shuffle, log)
    ticks = {}
    for tick, state in course.pairs():
        for w in course.are_done(state):
            ticks.setdefault(w, tick)
    return tuple([ticks.get(w) for w in course.players])


def ranks(book, shuffle, log):
    """For each player how many players have a lesser finish tick, None for those without one."""
    ticks = finish_ticks(book, shuffle, log)
    told = [tick for tick in ticks if tick is not None]
    return tuple([None if tick is None else len([other for other in told if other < tick]) for tick in ticks])


def splits(book, shuffle, log):
    """For each thing the TIME of the first STATE in which it is HELD, and the player in whose world it lies."""
    course = Course(book, shuffle, log)
    homes = {content[1]: place[0] for place, content in zip(places_of(book), shuffle) if content[0] == "thing"}
    found = {}
    for tick, state in course.pairs():
        for t in course.walk.held(state):
            found.setdefault(t, (tick, homes[t]))
    return tuple([found.get(t) for t in range(len(book[1]))])


def waits(book, shuffle, log):
    """For each player how long they waited along a LOG."""
    course = Course(book, shuffle, log)
    waited = [0 for _ in course.players]
    for (tick, state), later in zip(course.pairs(), course.times[1:]):
        for w in course.are_waiting(state):
            waited[w] += later - tick
    return tuple(waited)
