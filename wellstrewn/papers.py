"""What shows that a SHUFFLE is GOOD, or that it is not."""

from wellstrewn.errors import NotGood
from wellstrewn.forms import is_lot, is_row
from wellstrewn.gathering import held_behind, rounds_of, things_lying
from wellstrewn.goodness import fault_of, is_good
from wellstrewn.nets import are_keys_good, is_net_table, net_table
from wellstrewn.places import dungeon_at, dungeon_spots, laid_at
from wellstrewn.plays import Walk, is_dead_end, is_play, run, start_state, state_behind
from wellstrewn.regions import reached_spots, spots_off


def laid_dungeons(book, shuffle):
    """The list of the DUNGEONS, each with its LAID, in the order of the SPOTS."""
    return [(dungeon_at(book, spot), laid_at(book, shuffle, spot)) for spot in dungeon_spots(book)]


def are_rounds_good(book, shuffle, thing):
    """Whether any value can be the rounds of a PAPER."""
    many = len(book[1])
    if not isinstance(thing, tuple) or not all([is_lot(lot, many) and lot != () for lot in thing]):
        return False
    taken = held_behind(thing, ())
    if len(set(taken)) < len(taken) or spots_off(book, taken) != ():
        return False
    lying = dict(things_lying(book, shuffle))
    for k, lot in enumerate(thing):
        reached = reached_spots(book, held_behind(thing[:k], ()))
        if not all([lying[t] in reached for t in lot]):
            return False
    return True


def are_tables_good(book, shuffle, thing):
    """Whether any value can be the tables of a PAPER."""
    rows = laid_dungeons(book, shuffle)
    if not is_row(thing, len(rows)):
        return False
    right = [is_net_table(dungeon, laid, table) for (dungeon, laid), table in zip(rows, thing)]
    return all(right) and all([are_keys_good(dungeon, laid) for dungeon, laid in rows])


def is_good_paper(book, shuffle, thing):
    """Whether any value is a PAPER of a SHUFFLE."""
    if not is_row(thing, 2):
        return False
    return are_rounds_good(book, shuffle, thing[0]) and are_tables_good(book, shuffle, thing[1])


def needed_rounds(book, shuffle):
    """The ROUNDS from (), those left away from the end on that are not needed for all SPOTS."""
    rounds = rounds_of(book, shuffle)
    while rounds != () and spots_off(book, held_behind(rounds[:-1], ())) == ():
        rounds = rounds[:-1]
    return rounds


def good_paper(book, shuffle):
    """A PAPER of a SHUFFLE."""
    if not is_good(book, shuffle):
        raise NotGood()
    tables = [net_table(dungeon, laid) for dungeon, laid in laid_dungeons(book, shuffle)]
    return (needed_rounds(book, shuffle), tuple(tables))


def is_dead_play(book, shuffle, thing):
    """Whether any value is a PLAY that leads to a DEAD END."""
    return is_play(book, shuffle, thing) and is_dead_end(book, shuffle, run(book, shuffle, thing))


def shut_halls(book, fault):
    """The list of the HALLS that are not to be unlocked, so that a fault shows itself at the end."""
    if fault[0] != "net":
        return []
    _, spot, part = fault
    return [(*spot, v) for v in range(len(dungeon_at(book, spot)[0])) if v not in part]


def dead_play(book, shuffle):
    """A PLAY without "leave" to a DEAD END, None if the SHUFFLE is GOOD."""
    fault = fault_of(book, shuffle)
    if fault is None:
        return None
    shut = [("unlock", hall) for hall in shut_halls(book, fault)]
    walk = Walk(book, shuffle)
    state = start_state()
    play = []
    # Once only shut locks are left, no key is left for them either: the PART has a NET below 1.
    deeds = walk.deeds(state)
    while deeds != ():
        open_deeds = [deed for deed in deeds if deed not in shut]
        play.append(open_deeds[0])
        state = state_behind(state, open_deeds[0])
        deeds = walk.deeds(state)
    return tuple(play)
