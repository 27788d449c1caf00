"""What things a SHUFFLE lets one gather, all DUNGEONS being thought open."""

from wellstrewn.forms import is_integer
from wellstrewn.places import places_of
from wellstrewn.regions import reached_spots, spots_off


def things_lying(book, shuffle):
    """The list of all things, each with the SPOT at which it lies, by their indexes."""
    pairs = list(zip(places_of(book), shuffle))
    return sorted([(content[1], place[:2]) for place, content in pairs if content[0] == "thing"])


def found_with(book, lying, held):
    """The LOT of the things in lying that are found where just held is HELD, and are not in it."""
    reached = reached_spots(book, held)
    return tuple([t for t, spot in lying if spot in reached and t not in held])


def rounds_among(book, lying, held):
    """The ROUNDS from held that are not (), where no things are found but those in lying."""
    rounds = []
    found = found_with(book, lying, held)
    while found != ():
        rounds.append(found)
        held = tuple(sorted(held + found))
        found = found_with(book, lying, held)
    return tuple(rounds)


def held_behind(rounds, held):
    """The LOT of held and of all things in ROUNDS."""
    return tuple(sorted(list(held) + [t for lot in rounds for t in lot]))


def rounds_from(book, shuffle, held):
    """The ROUNDS from held that are not ()."""
    return rounds_among(book, things_lying(book, shuffle), held)


def rounds_of(book, shuffle):
    """The ROUNDS from () that are not ()."""
    return rounds_from(book, shuffle, ())


def gathered_from(book, shuffle, held):
    """The LOT of held and of all things that are gathered from it."""
    return held_behind(rounds_from(book, shuffle, held), held)


def gathered(book, shuffle):
    """The LOT of all things that are gathered from ()."""
    return gathered_from(book, shuffle, ())


def leads_on(book, shuffle):
    """Whether all SPOTS are reached where the things gathered are HELD."""
    return spots_off(book, gathered(book, shuffle)) == ()


def round_of_spot(book, shuffle, spot):
    """How many ROUNDS from () it takes till a SPOT is reached, None if it never is."""
    rounds = rounds_of(book, shuffle)
    for many in range(len(rounds) + 1):
        if spot in reached_spots(book, held_behind(rounds[:many], ())):
            return many
    return None


def is_needed(book, shuffle, thing):
    """Whether not all SPOTS are reached if a thing is never taken."""
    lying = [row for row in things_lying(book, shuffle) if row[0] != thing]
    rounds = rounds_among(book, lying, ())
    return spots_off(book, held_behind(rounds, ())) != ()


def needed_things(book, shuffle):
    """The LOT of the things that are needed."""
    return tuple([t for t in range(len(book[1])) if is_needed(book, shuffle, t)])


def is_round_row(book, shuffle, thing):
    """Whether any value is the tuple of the ROUNDS from ()."""
    if not isinstance(thing, tuple) or not all([isinstance(lot, tuple) for lot in thing]):
        return False
    # With == alone a truth would pass for an integer.
    if not all([is_integer(t) for lot in thing for t in lot]):
        return False
    return thing == rounds_of(book, shuffle)
