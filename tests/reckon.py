"""STATES and DEEDS reckoned from the definitions once more, and going through all STATES of small books."""

import random

from tests import support


def lying(book, shuffle):
    """The dict from PLACES to CONTENTS."""
    return dict(zip(support.places_in_order(book), shuffle))


def dungeons(book):
    """The dict from SPOTS to DUNGEONS."""
    found = {(w, r): book[0][w][1][r][2] for w, r in support.spots_in_order(book)}
    return {spot: dungeon for spot, dungeon in found.items() if dungeon is not None}


def held(book, shuffle, state):
    found = set()
    for place, content in lying(book, shuffle).items():
        if content[0] == "thing" and (place in state[0] or place[0] in state[2]):
            found.add(content[1])
    return tuple(sorted(found))


def bigs(book, shuffle, state):
    contents = lying(book, shuffle)
    return tuple(sorted({place[:2] for place in state[0] if contents[place] == ("big",)}))


def in_hand(book, shuffle, state):
    contents = lying(book, shuffle)
    return {spot: len([place for place in state[0] if place[:2] == spot and contents[place] == ("key",)])
            - len([hall for hall in state[1] if hall[:2] == spot]) for spot in sorted(dungeons(book))}


def spots(book, shuffle, state):
    return support.spots_with(book, held(book, shuffle, state))


def halls(book, shuffle, state):
    """Goes over all HALLS again and again till no more are REACHED."""
    reached, with_big = spots(book, shuffle, state), bigs(book, shuffle, state)
    found = set()
    while True:
        more = set()
        for w, r, v in support.halls_in_order(book):
            parent, way, _ = book[0][w][1][r][2][0][v]
            if v == 0:
                come = (w, r) in reached
            else:
                come = (w, r, parent) in found and (
                    way == "open" or way == "lock" and (w, r, v) in state[1] or way == "bar" and (w, r) in with_big)
            if come:
                more.add((w, r, v))
        if more <= found:
            return tuple(sorted(found))
        found |= more


def places(book, shuffle, state):
    reached = set(spots(book, shuffle, state)) | set(halls(book, shuffle, state))
    return tuple([place for place in support.places_in_order(book)
                  if (place[:3] if place[2] >= 0 else place[:2]) in reached])


def left_open(book, shuffle, state):
    reached, come = spots(book, shuffle, state), halls(book, shuffle, state)
    return (tuple([spot for spot in support.spots_in_order(book) if spot not in reached and spot[0] not in state[2]]),
            tuple([hall for hall in support.halls_in_order(book) if hall not in come and hall[0] not in state[2]]))


def deeds(book, shuffle, state):
    """All DEEDS that may be done but leaves, ascending."""
    opened, unlocked, gone = state
    come, keys = halls(book, shuffle, state), in_hand(book, shuffle, state)
    found = [("open", place) for place in places(book, shuffle, state)
             if place not in opened and place[0] not in gone]
    for w, r, v in support.halls_in_order(book):
        parent, way, _ = book[0][w][1][r][2][0][v]
        if way == "lock" and (w, r, v) not in unlocked and (w, r, parent) in come and keys[(w, r)] > 0:
            if w not in gone:
                found.append(("unlock", (w, r, v)))
    return tuple(sorted(found))


def leaves(book, state):
    return tuple([("leave", w) for w in range(len(book[0])) if w not in state[2]])


def after(state, deed):
    """The STATE behind a DEED."""
    at = ("open", "unlock", "leave").index(deed[0])
    return support.changed_at(state, at, tuple(sorted(set(state[at]) | {deed[1]})))


def is_stuck(book, shuffle, state):
    return left_open(book, shuffle, state) != ((), ()) and deeds(book, shuffle, state) == ()


def levels(book, shuffle, with_leaves, most=None):
    """The list of the lists of STATES to which so many DEEDS lead at least, None if there are more than most."""
    come = {((), (), ())}
    found = [[((), (), ())]]
    while found[-1]:
        later = []
        for state in found[-1]:
            for deed in deeds(book, shuffle, state) + (leaves(book, state) if with_leaves else ()):
                other = after(state, deed)
                if other not in come:
                    come.add(other)
                    later.append(other)
                if most is not None and len(come) > most:
                    return None
        found.append(later)
    return found[:-1]


def stuck_behind(book, shuffle, with_leaves):
    """The least number of DEEDS that lead to a DEAD END, None if no PLAY leads to one."""
    for many, states in enumerate(levels(book, shuffle, with_leaves)):
        if any(is_stuck(book, shuffle, state) for state in states):
            return many
    return None


def some_state(rng, book):
    """Any STATE, whether a PLAY leads to it or not."""
    locked = [(w, r, v) for w, r, v in support.halls_in_order(book) if book[0][w][1][r][2][0][v][1] == "lock"]
    gone = range(len(book[0]))
    if rng.random() < 0.4:
        gone = ()
    return (support.some_lot(rng, support.places_in_order(book)), support.some_lot(rng, locked),
            support.some_lot(rng, gone))


def some_play(rng, book, shuffle, leaving=0.1, most=99):
    """DEEDS that may be done, as chance wills."""
    state, play = ((), (), ()), []
    while len(play) < most:
        options = deeds(book, shuffle, state)
        if leaves(book, state) and rng.random() < leaving:
            options = leaves(book, state)
        if not options:
            break
        play.append(rng.choice(options))
        state = after(state, play[-1])
    return tuple(play)


def tiny_dungeon(rng):
    rooms = [(None, None, rng.randint(0, 2))]
    for v in range(1, rng.randint(1, 4)):
        rooms.append((rng.randrange(v), rng.choice(("open", "lock", "lock", "bar")), rng.randint(0, 2)))
    return (tuple(rooms), rng.choice((0, 1, 1, 2)))


def tiny_world(rng, w, own):
    many = rng.randint(1, 3)
    regions = [("r%d" % r, rng.randint(0, 2), tiny_dungeon(rng) if rng.random() < 0.5 else None) for r in range(many)]
    arrows = []
    for r in range(1, many):
        arrows.append((rng.randrange(r), r, support.some_lot(rng, own)[:2]))
    return ("w%d" % w, tuple(regions), tuple(arrows))


def tiny_pair(rng, most):
    """A book with a SHUFFLE, and at most so many PLACES and locked ways together; None where chance wills none."""
    many = rng.choice((1, 1, 2))
    owners = [rng.randrange(many) for _ in range(rng.randint(0, 3))]
    worlds = [tiny_world(rng, w, [t for t, owner in enumerate(owners) if owner == w]) for w in range(many)]
    book = (tuple(worlds), tuple([("t%d" % t, owner) for t, owner in enumerate(owners)]))
    locks = [room for dungeon in dungeons(book).values() for room in dungeon[0] if room[1] == "lock"]
    shuffle = support.some_shuffle(rng, book)
    if shuffle is None or len(shuffle) + len(locks) > most:
        return None
    return (book, shuffle)


def tiny_pairs(many, seed, most):
    rng = random.Random(seed)
    found = []
    while len(found) < many:
        pair = tiny_pair(rng, most)
        if pair is not None:
            found.append(pair)
    return found
