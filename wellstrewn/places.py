"""Where things can lie in a BOOK: its SPOTS, HALLS and PLACES, and what a SHUFFLE has there."""

STRAW = ("straw",)
KEY = ("key",)
BIG = ("big",)


def spots_of(book):
    """The LOT of all SPOTS."""
    return tuple([(w, r) for w, world in enumerate(book[0]) for r in range(len(world[1]))])


def region_at(book, spot):
    """The REGION at a SPOT."""
    w, r = spot
    return book[0][w][1][r]


def dungeon_at(book, spot):
    """The DUNGEON at a SPOT, None if there is none."""
    return region_at(book, spot)[2]


def dungeon_spots(book):
    """The LOT of the SPOTS with a DUNGEON."""
    return tuple([spot for spot in spots_of(book) if dungeon_at(book, spot) is not None])


def halls_of(book):
    """The LOT of all HALLS."""
    return tuple([(*spot, v) for spot in dungeon_spots(book) for v in range(len(dungeon_at(book, spot)[0]))])


def room_at(book, hall):
    """The ROOM of one of the HALLS."""
    w, r, v = hall
    return dungeon_at(book, (w, r))[0][v]


def locked_halls(book):
    """The LOT of the HALLS whose way is "lock"."""
    return tuple([hall for hall in halls_of(book) if room_at(book, hall)[1] == "lock"])


def places_at(book, spot):
    """The LOT of the PLACES that are INSIDE at a SPOT."""
    dungeon = dungeon_at(book, spot)
    if dungeon is None:
        return ()
    return tuple([(*spot, v, i) for v, room in enumerate(dungeon[0]) for i in range(room[2])])


def all_places_at(book, spot):
    """The LOT of all PLACES of the REGION at a SPOT, those INSIDE among them."""
    outside = tuple([(*spot, -1, i) for i in range(region_at(book, spot)[1])])
    return outside + places_at(book, spot)


def places_of(book):
    """The LOT of all PLACES."""
    return tuple([place for spot in spots_of(book) for place in all_places_at(book, spot)])


def asked_things(book):
    """The LOT of the things that some ARROW needs."""
    return tuple(sorted({t for world in book[0] for arrow in world[2] for t in arrow[2]}))


def is_barred(dungeon):
    """Whether some way of a DUNGEON is "bar"."""
    return any([room[1] == "bar" for room in dungeon[0]])


def keys_belonging(dungeon, content):
    """How many of ("key",) or of ("big",) belong to a DUNGEON."""
    if content == KEY:
        return dungeon[1]
    return 1 if is_barred(dungeon) else 0


def content_at(book, shuffle, place):
    """The CONTENT of one of the PLACES."""
    return shuffle[places_of(book).index(place)]


def places_with(book, shuffle, spot, content):
    """The LOT of the PLACES at a SPOT that have a CONTENT."""
    pairs = list(zip(places_of(book), shuffle))
    return tuple([place for place, other in pairs if place[:2] == spot and other == content])


def laid_at(book, shuffle, spot):
    """The room of the big key, and the number of small keys in each room, of the DUNGEON at a SPOT."""
    small = [0] * len(dungeon_at(book, spot)[0])
    for place in places_with(book, shuffle, spot, KEY):
        small[place[2]] += 1
    bigs = places_with(book, shuffle, spot, BIG)
    return (bigs[0][2] if bigs else None, tuple(small))


def telling_of(book, shuffle):
    """The TELLING of a SHUFFLE."""
    keys = []
    for spot in dungeon_spots(book):
        bigs = places_with(book, shuffle, spot, BIG)
        keys.append((bigs[0] if bigs else (), places_with(book, shuffle, spot, KEY)))
    pairs = list(zip(places_of(book), shuffle))
    lying = {content[1]: place for place, content in pairs if content[0] == "thing"}
    return (tuple(keys), tuple([lying[t] for t in range(len(book[1]))]))


def shuffle_of(book, telling):
    """The SHUFFLE that has a TELLING."""
    keys, things = telling
    lying = {place: ("thing", t) for t, place in enumerate(things)}
    for big, small in keys:
        if big != ():
            lying[big] = BIG
        for place in small:
            lying[place] = KEY
    return tuple([lying.get(place, STRAW) for place in places_of(book)])
