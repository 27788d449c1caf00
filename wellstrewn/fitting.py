"""The GOOD SHUFFLES that have what was seen, and in which hints hold: how many they are, and which in their order.

Here seen is a dict from PLACES to CONTENTS, hints a tuple that has for each thing None or a LOT of SPOTS.
"""

from wellstrewn.errors import NoNumber
from wellstrewn.keylayings import key_layings_below, nth_key_laying
from wellstrewn.keytables import count_key_layings, is_key_laying
from wellstrewn.places import BIG, KEY, all_places_at, dungeon_at, dungeon_spots, keys_belonging, places_at, places_of
from wellstrewn.places import shuffle_of, spots_of
from wellstrewn.thinglayings import laying_number, nth_laying
from wellstrewn.thingtables import count_ways


def no_hints(book):
    """The hints that tell nothing."""
    return (None,) * len(book[1])


def unseen_among(seen, places):
    """The list of the PLACES of a LOT that were not seen."""
    return [place for place in places if place not in seen]


def keys_hidden(book, seen, spot, content):
    """How many of ("key",) or of ("big",) belong to a SPOT and were not seen; below 0 if too many were."""
    dungeon = dungeon_at(book, spot)
    many = 0 if dungeon is None else keys_belonging(dungeon, content)
    return many - len([place for place in seen if place[:2] == spot and seen[place] == content])


def do_keys_fit(book, seen):
    """Whether the keys that were seen lie where they may, and there are chests left for the others."""
    if [place for place in seen if place[2] == -1 and seen[place] in (KEY, BIG)] != []:
        return False
    for spot in dungeon_spots(book):
        keys, bigs = keys_hidden(book, seen, spot, KEY), keys_hidden(book, seen, spot, BIG)
        if keys < 0 or bigs < 0 or keys + bigs > len(unseen_among(seen, places_at(book, spot))):
            return False
    return True


def free_at(book, seen, spot):
    """How many PLACES at a SPOT are left beside those seen and the keys that are hidden there."""
    many = len(unseen_among(seen, all_places_at(book, spot)))
    return many - keys_hidden(book, seen, spot, KEY) - keys_hidden(book, seen, spot, BIG)


def has_shuffle(book, seen):
    """Whether some SHUFFLE of a BOOK, GOOD or not, has what was seen."""
    things = [content for content in seen.values() if content[0] == "thing"]
    if len(set(things)) < len(things) or not do_keys_fit(book, seen):
        return False
    return sum([free_at(book, seen, spot) for spot in spots_of(book)]) >= len(book[1]) - len(things)


def told_places(book, seen):
    """For each thing the PLACE in which it was seen, None if it was not."""
    lying = {content: place for place, content in seen.items()}
    return tuple([lying.get(("thing", t)) for t in range(len(book[1]))])


def frame_with(book, seen, hints):
    """The FRAME by which things are counted, None if no SHUFFLE has what was seen."""
    if not has_shuffle(book, seen):
        return None
    free = tuple([free_at(book, seen, spot) for spot in spots_of(book)])
    return (free, tuple([None if place is None else place[:2] for place in told_places(book, seen)]), hints)


def sight_word(seen, place):
    """What is known of the keys of a PLACE that is INSIDE."""
    if place not in seen:
        return "any"
    return seen[place][0] if seen[place] in (KEY, BIG) else "other"


def sights_with(book, seen):
    """The tuple of the SIGHTS of all DUNGEONS, None if no SHUFFLE has what was seen."""
    if not has_shuffle(book, seen):
        return None
    rows = [places_at(book, spot) for spot in dungeon_spots(book)]
    return tuple([tuple([sight_word(seen, place) for place in places]) for places in rows])


def field_with(book, seen, hints, keys):
    """The FIELD of the things, where the dict keys has all PLACES of keys."""
    places = [place for place in unseen_among(seen, places_of(book)) if place not in keys]
    return (tuple(places), told_places(book, seen), hints)


def key_row(places, laying):
    """What a TELLING has for a DUNGEON with these PLACES, its keys lying by a KEY LAYING."""
    big, small = laying
    return (() if big is None else places[big], tuple([places[k] for k in small]))


def key_laying(places, row):
    """The KEY LAYING that a TELLING tells by a row for a DUNGEON with these PLACES."""
    big, small = row
    return (None if big == () else places.index(big), tuple([places.index(place) for place in small]))


def key_places(keys):
    """The dict of True from all PLACES that the rows of a TELLING have for keys."""
    return {place: True for big, small in keys for place in (big, *small) if place != ()}


def product_of(numbers):
    """The product of a list of numbers, 1 if there are none."""
    many = 1
    for number in numbers:
        many = many * number
    return many


class Fitting:
    """The GOOD SHUFFLES of a BOOK that have what was seen, and in which hints hold, in the order of their TELLINGS.

    rows has for each DUNGEON (DUNGEON, SIGHT, its PLACES, how many KEY LAYINGS), ways in how many ways the things lie:
    these are as many wherever the keys lie. many is how many there are. frame is None, and rows are left out, where no
    SHUFFLE has what was seen.
    """

    def __init__(self, book, seen, hints):
        self.book = book
        self.seen = seen
        self.hints = hints
        self.frame = frame_with(book, seen, hints)
        self.rows = []
        self.ways = 0
        if self.frame is not None:
            self.ways = count_ways(book, self.frame)
            for spot, sight in zip(dungeon_spots(book), sights_with(book, seen)):
                dungeon = dungeon_at(book, spot)
                self.rows.append((dungeon, sight, places_at(book, spot), count_key_layings(dungeon, sight)))
        self.many = self.ways * product_of([row[3] for row in self.rows])

    def field(self, keys):
        """The FIELD of the things, where keys are the rows of a TELLING."""
        return field_with(self.book, self.seen, self.hints, key_places(keys))

    def telling_at(self, n):
        """The TELLING of the one with an index n below many."""
        keys = []
        each, left = self.many, n
        for dungeon, sight, places, many in self.rows:
            each = each // many
            keys.append(key_row(places, nth_key_laying(dungeon, sight, left // each)))
            left = left % each
        return (tuple(keys), nth_laying(self.book, self.field(keys), left))

    def many_below(self, telling):
        """How many of them have a TELLING less than that of any SHUFFLE, GOOD or not."""
        if self.many == 0:
            return 0
        keys, things = telling
        each, below = self.many, 0
        for (dungeon, sight, places, many), row in zip(self.rows, keys):
            each = each // many
            laying = key_laying(places, row)
            below += each * key_layings_below(dungeon, sight, laying)
            if not is_key_laying(dungeon, sight, laying):
                return below
        return below + laying_number(self.book, self.field(keys), things)


def nth_fitting(book, seen, hints, n):
    """The one with the index n among the GOOD SHUFFLES that have what was seen, and in which hints hold."""
    fitting = Fitting(book, seen, hints)
    if n >= fitting.many:
        raise NoNumber(fitting.many)
    return shuffle_of(book, fitting.telling_at(n))
