"""What is told of chests that nobody has opened, exact over all GOOD SHUFFLES that FIT a KNOWLEDGE."""

from wellstrewn.errors import NoFit
from wellstrewn.fitting import Fitting, nth_fitting, product_of
from wellstrewn.forms import is_row, is_shuffle, reduced
from wellstrewn.goodness import is_good
from wellstrewn.keytables import key_chances
from wellstrewn.knowledge import fits, hints_row, seen_dict, with_seen
from wellstrewn.places import BIG, KEY, STRAW, content_at, dungeon_spots, places_of, shuffle_of, spots_of, telling_of
from wellstrewn.thingtables import Chart, ways_counted


class Tally:
    """In how many of the GOOD SHUFFLES that FIT a KNOWLEDGE, at least one of them, CONTENTS lie in PLACES."""

    def __init__(self, book, knowledge):
        self.fitting = fitting_of(book, knowledge)
        if self.fitting.many == 0:
            raise NoFit()
        self.homes = list(dungeon_spots(book))
        self.indexes = {spot: k for k, spot in enumerate(spots_of(book))}
        self.chart = Chart(book)
        self.key_rows = {}
        self.thing_ways = {}

    def keys_at(self, place):
        """In how many ways all keys lie such that a PLACE has a small key, a big key, neither."""
        spot = place[:2]
        if place[2] == -1:
            return (0, 0, product_of([row[3] for row in self.fitting.rows]))
        if spot not in self.key_rows:
            self.key_rows[spot] = self.keys_inside(self.homes.index(spot))
        return self.key_rows[spot][place]

    def keys_inside(self, k):
        """The dict from the PLACES of a DUNGEON, told by its index, to what keys_at tells."""
        rows = self.fitting.rows
        dungeon, sight, places, many = rows[k]
        others = product_of([row[3] for row in rows[:k] + rows[k + 1:]])
        found = {}
        for place, (keys, bigs) in zip(places, key_chances(dungeon, sight)):
            found[place] = (keys * others, bigs * others, (many - keys - bigs) * others)
        return found

    def ways_at(self, spot, content):
        """In how many ways the things lie such that one free chest of a SPOT has a CONTENT, a thing or straw."""
        case = (spot, content)
        if case not in self.thing_ways:
            self.thing_ways[case] = ways_counted(self.chart, self.frame_at(spot, content))
        return self.thing_ways[case]

    def frame_at(self, spot, content):
        """The FRAME behind laying a CONTENT, a thing that was not seen or straw, into one free chest of a SPOT."""
        free, told, hints = self.fitting.frame
        k = self.indexes[spot]
        less = (*free[:k], free[k] - 1, *free[k + 1:])
        if content == STRAW:
            return (less, told, hints)
        t = content[1]
        return (less, (*told[:t], spot, *told[t + 1:]), hints)

    def many_with(self, place, content):
        """In how many of them a PLACE has a CONTENT."""
        seen = self.fitting.seen
        if place in seen:
            return self.fitting.many if seen[place] == content else 0
        keys, bigs, others = self.keys_at(place)
        if content == KEY:
            return keys * self.fitting.ways
        if content == BIG:
            return bigs * self.fitting.ways
        # Where a key lies always, no chest may be free.
        if others == 0 or self.was_seen(content):
            return 0
        return others * self.ways_at(place[:2], content)

    def was_seen(self, content):
        """Whether a CONTENT is a thing that was seen."""
        return content != STRAW and self.fitting.frame[1][content[1]] is not None

    def share(self, place, content):
        """The FRACTION of them in which a PLACE has a CONTENT."""
        return reduced(self.many_with(place, content), self.fitting.many)


def fitting_of(book, knowledge):
    """The GOOD SHUFFLES that FIT a KNOWLEDGE."""
    return Fitting(book, seen_dict(knowledge), hints_row(book, knowledge))


def contents_of(book):
    """The list of all CONTENTS, ascending."""
    return [BIG, KEY, STRAW] + [("thing", t) for t in range(len(book[1]))]


def how_many(book, knowledge):
    """The number of the GOOD SHUFFLES that FIT."""
    return fitting_of(book, knowledge).many


def share_of(book, knowledge, place, content):
    """The FRACTION of those that FIT in which a PLACE has a CONTENT."""
    return Tally(book, knowledge).share(place, content)


def shares_at(book, knowledge, place):
    """The dict from all CONTENTS that a PLACE has in some of those that FIT to their FRACTIONS."""
    tally = Tally(book, knowledge)
    found = [content for content in contents_of(book) if tally.many_with(place, content) > 0]
    return {content: tally.share(place, content) for content in found}


def shares_for(book, knowledge, t):
    """The dict from all PLACES in which a thing lies in some of those that FIT to their FRACTIONS."""
    tally = Tally(book, knowledge)
    found = [place for place in places_of(book) if tally.many_with(place, ("thing", t)) > 0]
    return {place: tally.share(place, ("thing", t)) for place in found}


def surely(book, knowledge):
    """The LOT of the (place, content), the PLACE not being seen, that stand in all of those that FIT."""
    tally = Tally(book, knowledge)
    many, seen = tally.fitting.many, tally.fitting.seen
    pairs = [(place, content) for place in places_of(book) if place not in seen for content in contents_of(book)]
    return tuple([(place, content) for place, content in pairs if tally.many_with(place, content) == many])


def can_lie(book, knowledge, t):
    """The LOT of the PLACES in which a thing lies in some of those that FIT."""
    return tuple(list(shares_for(book, knowledge, t)))


def best_places(book, knowledge, t):
    """The LOT of the PLACES in which a thing lies in most of those that FIT."""
    tally = Tally(book, knowledge)
    many = {place: tally.many_with(place, ("thing", t)) for place in places_of(book)}
    most = max(many.values())
    return tuple([place for place in many if many[place] == most])


def first_or_none(book, knowledge):
    """The GOOD SHUFFLE that FITS with the least NUMBER, None if there is none."""
    fitting = fitting_of(book, knowledge)
    return None if fitting.many == 0 else shuffle_of(book, fitting.telling_at(0))


def first_fitting(book, knowledge):
    """The GOOD SHUFFLE that FITS with the least NUMBER."""
    shuffle = first_or_none(book, knowledge)
    if shuffle is None:
        raise NoFit()
    return shuffle


def fitting_at(book, knowledge, index):
    """The GOOD SHUFFLE with an index among those that FIT, in the order of their NUMBERS."""
    return nth_fitting(book, seen_dict(knowledge), hints_row(book, knowledge), index)


def first_having(book, knowledge, place, content):
    """The first one that FITS and has a CONTENT in a PLACE, None if there is none."""
    seen = seen_dict(knowledge)
    if place not in seen:
        return first_or_none(book, with_seen(knowledge, place, content))
    return first_or_none(book, knowledge) if seen[place] == content else None


def parted(book, knowledge, place, content):
    """The first one that FITS and has a CONTENT in a PLACE, and the first one that has not; each None if none is."""
    first = first_or_none(book, knowledge)
    if first is None:
        return (None, None)
    if content_at(book, first, place) != content:
        return (first_having(book, knowledge, place, content), first)
    others = [first_having(book, knowledge, place, other) for other in contents_of(book) if other != content]
    tellings = sorted([telling_of(book, other) for other in others if other is not None])
    return (first, shuffle_of(book, tellings[0]) if tellings != [] else None)


def does_fit(book, knowledge, thing):
    """Whether any value is a GOOD SHUFFLE that FITS."""
    return is_shuffle(book, thing) and is_good(book, thing) and fits(book, thing, knowledge)


def is_parting(book, knowledge, place, content, thing):
    """Whether any value is a tuple of two GOOD SHUFFLES that FIT, of which just the first has a CONTENT in a PLACE."""
    if not is_row(thing, 2) or not all([does_fit(book, knowledge, shuffle) for shuffle in thing]):
        return False
    one, other = thing
    return content_at(book, one, place) == content and content_at(book, other, place) != content
