"""LAYINGS of a FIELD, numbered."""

from wellstrewn.errors import NoNumber
from wellstrewn.forms import is_integer_row, is_row
from wellstrewn.gathering import held_behind, rounds_among
from wellstrewn.places import spots_of
from wellstrewn.regions import spots_off
from wellstrewn.thingtables import Chart, ways_counted


def places_left(field):
    """The dict from SPOTS to the lists of the places of a FIELD there that no thing was told to lie in."""
    places, told, _ = field
    taken = {place: True for place in told if place is not None}
    left = {}
    for place in places:
        if place not in taken:
            left.setdefault(place[:2], []).append(place)
    return left


def field_frame(book, field):
    """The FRAME of a FIELD."""
    _, told, hints = field
    left = places_left(field)
    free = tuple([len(left.get(spot, [])) for spot in spots_of(book)])
    return (free, tuple([None if place is None else place[:2] for place in told]), hints)


def with_told(field, t, place):
    """A FIELD with a thing told to lie in a PLACE, perhaps one of its places."""
    places, told, hints = field
    return (places, (*told[:t], place, *told[t + 1:]), hints)


def stands_in_field(field, thing):
    """Whether any value is a tuple with the told PLACE of each thing, or one of places, no two the same."""
    places, told, _ = field
    if not is_row(thing, len(told)) or not all([is_integer_row(place, 4) for place in thing]):
        return False
    for place, other in zip(thing, told):
        stands = place in places if other is None else place == other
        if not stands:
            return False
    return len(set(thing)) == len(thing)


def is_laying(book, field, thing):
    """Whether any value is a LAYING."""
    if not stands_in_field(field, thing):
        return False
    lying = [(t, place[:2]) for t, place in enumerate(thing)]
    if not all([lot is None or spot in lot for (_, spot), lot in zip(lying, field[2])]):
        return False
    return spots_off(book, held_behind(rounds_among(book, lying, ()), ())) == ()


def count_layings(book, field):
    """How many LAYINGS a FIELD has."""
    return ways_counted(Chart(book), field_frame(book, field))


def counted_at(book, chart, field, t, place):
    """How many LAYINGS of a FIELD have a thing in a PLACE; of the places of one SPOT all have as many."""
    return ways_counted(chart, field_frame(book, with_told(field, t, place)))


def nth_laying(book, field, n):
    """The LAYING of a FIELD than which just n others are less."""
    chart = Chart(book)
    many = ways_counted(chart, field_frame(book, field))
    if n >= many:
        raise NoNumber(many)
    told = field
    left = n
    for t in range(len(field[1])):
        rows = list(places_left(told).values()) if field[1][t] is None else []
        for places in rows:
            each = counted_at(book, chart, told, t, places[0])
            if left < each * len(places):
                told = with_told(told, t, places[left // each])
                left = left % each
                break
            left -= each * len(places)
    return told[1]


def laying_number(book, field, some):
    """How many LAYINGS of a FIELD are less than any tuple of as many PLACES as there are things."""
    chart = Chart(book)
    told = field
    below = 0
    for t, place in enumerate(some):
        only = field[1][t]
        rows = list(places_left(told).values()) if only is None else [[only]]
        for places in rows:
            less = [other for other in places if other < place]
            if less != []:
                below += len(less) * counted_at(book, chart, told, t, less[0])
        if place not in [other for places in rows for other in places]:
            break
        told = with_told(told, t, place)
    return below
