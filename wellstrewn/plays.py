"""STATES, what is REACHED in them, and the DEEDS that lead from one to the next."""

from wellstrewn.errors import NoDeed
from wellstrewn.forms import is_deed
from wellstrewn.places import BIG, KEY, dungeon_spots, halls_of, places_of, room_at, spots_of
from wellstrewn.regions import reached_spots


class Walk:
    """A SHUFFLE of a BOOK, looked through once for all the STATES that are asked of it.

    places has pairs (PLACE, CONTENT), halls has tuples (HALL, its parent's HALL or None, way).
    """

    def __init__(self, book, shuffle):
        self.book = book
        self.places = list(zip(places_of(book), shuffle))
        self.spots_and_halls = spots_of(book) + halls_of(book)
        self.dungeons = dungeon_spots(book)
        self.halls = []
        for hall in halls_of(book):
            parent, way, _ = room_at(book, hall)
            self.halls.append((hall, None if parent is None else (*hall[:2], parent), way))
        self.spots_by_held = {}

    def held(self, state):
        """The LOT of the things that are HELD."""
        opened, _, gone = state
        taken = {place: True for place in opened}
        things = [row for row in self.places if row[1][0] == "thing"]
        return tuple(sorted([content[1] for place, content in things if place in taken or place[0] in gone]))

    def spots(self, state):
        """The LOT of the REACHED SPOTS."""
        held = self.held(state)
        if held not in self.spots_by_held:
            self.spots_by_held[held] = reached_spots(self.book, held)
        return self.spots_by_held[held]

    def opened_with(self, state, wanted):
        """The list of the opened PLACES with a CONTENT."""
        taken = {place: True for place in state[0]}
        return [place for place, content in self.places if content == wanted and place in taken]

    def in_hand(self, state):
        """The dict from the SPOTS with a DUNGEON to the numbers of small keys IN HAND."""
        many = {spot: 0 for spot in self.dungeons}
        for place in self.opened_with(state, KEY):
            many[place[:2]] += 1
        for hall in state[1]:
            many[hall[:2]] -= 1
        return many

    def bigs(self, state):
        """The LOT of the SPOTS whose DUNGEON's big key is HELD."""
        return tuple([place[:2] for place in self.opened_with(state, BIG)])

    def reached(self, state):
        """The dict of True from the REACHED SPOTS and HALLS."""
        found = {spot: True for spot in self.spots(state)}
        bigs = self.bigs(state)
        # A parent stands ahead of what hangs on it, so whether it is REACHED is known.
        for hall, parent, way in self.halls:
            if parent is None:
                come = hall[:2] in found
            elif way == "lock":
                come = parent in found and hall in state[1]
            else:
                come = parent in found and (way == "open" or hall[:2] in bigs)
            if come:
                found[hall] = True
        return found

    def places_reached(self, state):
        """The list of the REACHED PLACES."""
        reached = self.reached(state)
        return [place for place, _ in self.places if home_of(place) in reached]

    def not_reached(self, state):
        """The list of the SPOTS and HALLS of players who are not gone that are not REACHED, SPOTS first."""
        reached = self.reached(state)
        return [row for row in self.spots_and_halls if row not in reached and row[0] not in state[2]]

    def deeds(self, state):
        """The tuple of the DEEDS that may be done but those with "leave", ascending."""
        opened, unlocked, gone = state
        reached = self.reached(state)
        keys = self.in_hand(state)
        taken = {place: True for place in opened}
        chests = [place for place, _ in self.places if home_of(place) in reached and place not in taken]
        locks = [hall for hall, parent, way in self.halls if way == "lock" and parent in reached]
        locks = [hall for hall in locks if hall not in unlocked and keys[hall[:2]] >= 1]
        deeds = [("open", place) for place in chests] + [("unlock", hall) for hall in locks]
        return tuple([deed for deed in deeds if deed[1][0] not in gone])

    def may(self, state, deed):
        """Whether a DEED may be done."""
        word, what = deed
        return what not in state[2] if word == "leave" else deed in self.deeds(state)

    def behind(self, state, deeds):
        """The list of a STATE and of those behind each of some DEEDS, one done after the other."""
        states = [state]
        for k, deed in enumerate(deeds):
            if not self.may(states[-1], deed):
                raise NoDeed(k)
            states.append(state_behind(states[-1], deed))
        return states


def home_of(place):
    """The HALL of a PLACE that is INSIDE, the SPOT of another one."""
    return place[:2] if place[2] == -1 else place[:3]


def with_one(lot, one):
    """A LOT and one more."""
    return tuple(sorted([*lot, one]))


def state_behind(state, deed):
    """The STATE behind a DEED that may be done."""
    opened, unlocked, gone = state
    word, what = deed
    if word == "open":
        return (with_one(opened, what), unlocked, gone)
    if word == "unlock":
        return (opened, with_one(unlocked, what), gone)
    return (opened, unlocked, with_one(gone, what))


def start_state():
    """The first STATE."""
    return ((), (), ())


def held_in(book, shuffle, state):
    """The LOT of the things that are HELD."""
    return Walk(book, shuffle).held(state)


def keys_in_hand(book, shuffle, state):
    """The dict from the SPOTS with a DUNGEON to the numbers of small keys IN HAND."""
    return Walk(book, shuffle).in_hand(state)


def big_keys(book, shuffle, state):
    """The LOT of the SPOTS whose DUNGEON's big key is HELD."""
    return Walk(book, shuffle).bigs(state)


def spots_in(book, shuffle, state):
    """The LOT of the SPOTS that are REACHED."""
    return Walk(book, shuffle).spots(state)


def halls_in(book, shuffle, state):
    """The LOT of the HALLS that are REACHED."""
    reached = Walk(book, shuffle).reached(state)
    return tuple([hall for hall in halls_of(book) if hall in reached])


def reached_places(book, shuffle, state):
    """The LOT of the PLACES that are REACHED, opened or not."""
    return tuple(Walk(book, shuffle).places_reached(state))


def is_whole(book, shuffle, state):
    """Whether a STATE is WHOLE."""
    return Walk(book, shuffle).not_reached(state) == []


def is_dead_end(book, shuffle, state):
    """Whether a STATE is a DEAD END."""
    return not is_whole(book, shuffle, state) and deeds_of(book, shuffle, state) == ()


def deeds_of(book, shuffle, state):
    """The tuple of the DEEDS that may be done but those with "leave", ascending."""
    return Walk(book, shuffle).deeds(state)


def may_do(book, shuffle, state, deed):
    """Whether a DEED may be done."""
    return Walk(book, shuffle).may(state, deed)


def done(book, shuffle, state, deed):
    """The STATE behind a DEED."""
    return Walk(book, shuffle).behind(state, [deed])[-1]


def run(book, shuffle, play):
    """The STATE to which DEEDS lead from the first one."""
    return states_of(book, shuffle, play)[-1]


def states_of(book, shuffle, play):
    """The list of all STATES on the way of DEEDS, the first one and the last one too."""
    return Walk(book, shuffle).behind(start_state(), play)


def is_play(book, shuffle, thing):
    """Whether any value is a PLAY."""
    if not isinstance(thing, tuple):
        return False
    walk = Walk(book, shuffle)
    state = start_state()
    for deed in thing:
        if not is_deed(book, deed) or not walk.may(state, deed):
            return False
        state = state_behind(state, deed)
    return True
