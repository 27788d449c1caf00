"""Which SPOTS are REACHED where just some things are HELD."""

from wellstrewn.places import BIG, KEY, all_places_at, dungeon_at, keys_belonging, spots_of


def first_spots(book):
    """The LOT of the SPOTS at which the players begin."""
    return tuple([(w, 0) for w in range(len(book[0]))])


def lacking_of(needs, held):
    """The LOT of the needs that are not in held."""
    return tuple([t for t in needs if t not in held])


def reached_regions(world, held):
    """The indexes of the REACHED regions of a WORLD, ascending."""
    steps = [(one, other) for one, other, needs in world[2] if lacking_of(needs, held) == ()]
    reached = {0: True}
    waiting = [0]
    while waiting:
        here = waiting.pop()
        for one, other in steps:
            if one == here and other not in reached:
                reached[other] = True
                waiting.append(other)
    return sorted(reached)


def reached_spots(book, held):
    """The LOT of the REACHED SPOTS of all worlds together."""
    return tuple([(w, r) for w, world in enumerate(book[0]) for r in reached_regions(world, held)])


def spots_off(book, held):
    """The LOT of the SPOTS that are not REACHED."""
    reached = reached_spots(book, held)
    return tuple([spot for spot in spots_of(book) if spot not in reached])


def barred_arrows(book, held):
    """The ARROWS from a REACHED SPOT to one that is not, each with the LOT of the needs that lack."""
    reached = reached_spots(book, held)
    barred = []
    for w, world in enumerate(book[0]):
        for a, (one, other, needs) in enumerate(world[2]):
            if (w, one) in reached and (w, other) not in reached:
                barred.append((w, a, lacking_of(needs, held)))
    return tuple(barred)


def places_in(book, spots):
    """The LOT of the PLACES of the regions at SPOTS, and of their DUNGEONS."""
    return tuple([place for spot in spots for place in all_places_at(book, spot)])


def free_many(book, spots):
    """How many PLACES at SPOTS are left beside the keys that belong there; below 0 if they are too few."""
    many = len(places_in(book, spots))
    for spot in spots:
        dungeon = dungeon_at(book, spot)
        if dungeon is not None:
            many -= keys_belonging(dungeon, KEY) + keys_belonging(dungeon, BIG)
    return many
