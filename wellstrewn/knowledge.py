"""What is known of a SHUFFLE: what was seen in PLACES, and hints of where things lie."""

from wellstrewn.fitting import field_with, frame_with, sights_with
from wellstrewn.forms import is_ascending, is_content, is_index, is_lot_among, is_row
from wellstrewn.places import BIG, KEY, places_of, spots_of


def are_seen(book, thing):
    """Whether any value can be what was seen of a KNOWLEDGE."""
    if not isinstance(thing, tuple) or not all([is_row(row, 2) for row in thing]):
        return False
    places = tuple([place for place, _ in thing])
    return is_lot_among(places, 4, places_of(book)) and all([is_content(book, content) for _, content in thing])


def are_hints(book, thing):
    """Whether any value can be the hints of a KNOWLEDGE."""
    if not isinstance(thing, tuple) or not all([is_row(row, 2) for row in thing]):
        return False
    if not all([is_index(t, len(book[1])) and spots != () for t, spots in thing]):
        return False
    everywhere = spots_of(book)
    return is_ascending([t for t, _ in thing]) and all([is_lot_among(spots, 2, everywhere) for _, spots in thing])


def is_knowledge(book, thing):
    """Whether any value is a KNOWLEDGE."""
    return is_row(thing, 2) and are_seen(book, thing[0]) and are_hints(book, thing[1])


def seen_dict(knowledge):
    """The dict from the PLACES that were seen to their CONTENTS."""
    return {place: content for place, content in knowledge[0]}


def hints_row(book, knowledge):
    """For each thing the LOT of SPOTS of its hint, None if it has none."""
    spots = {t: lot for t, lot in knowledge[1]}
    return tuple([spots.get(t) for t in range(len(book[1]))])


def fits(book, shuffle, knowledge):
    """Whether a SHUFFLE FITS a KNOWLEDGE."""
    lying = list(zip(places_of(book), shuffle))
    seen, hints = seen_dict(knowledge), hints_row(book, knowledge)
    if [place for place, content in lying if place in seen and seen[place] != content] != []:
        return False
    homes = {content[1]: place[:2] for place, content in lying if content[0] == "thing"}
    return all([spots is None or homes[t] in spots for t, spots in enumerate(hints)])


def seen_in(book, shuffle, state):
    """The KNOWLEDGE of what a STATE shows, without hints."""
    opened, _, gone = state
    taken = {place: True for place in opened}
    pairs = list(zip(places_of(book), shuffle))
    return (tuple([(place, content) for place, content in pairs if place in taken or place[0] in gone]), ())


def with_seen(knowledge, place, content):
    """A KNOWLEDGE with one more PLACE seen."""
    seen, hints = knowledge
    return (tuple(sorted([*seen, (place, content)])), hints)


def with_hint(knowledge, t, spots):
    """A KNOWLEDGE with a hint of one more thing."""
    seen, hints = knowledge
    return (seen, tuple(sorted([*hints, (t, spots)])))


def joined_seen(one, other):
    """What was seen of two such, None if a PLACE would have two CONTENTS."""
    seen = {place: content for place, content in one}
    for place, content in other:
        if seen.get(place, content) != content:
            return None
        seen[place] = content
    return tuple(sorted(seen.items()))


def joined_hints(one, other):
    """The hints of two such, None if one would have no SPOT."""
    hints = {t: spots for t, spots in one}
    for t, spots in other:
        both = tuple([spot for spot in hints.get(t, spots) if spot in spots])
        if both == ():
            return None
        hints[t] = both
    return tuple(sorted(hints.items()))


def joined(one, other):
    """The KNOWLEDGE that just those SHUFFLES fit which fit both; None if a PLACE or a hint leaves none."""
    seen, hints = joined_seen(one[0], other[0]), joined_hints(one[1], other[1])
    return None if seen is None or hints is None else (seen, hints)


def frame_from(book, knowledge):
    """The FRAME by which things are counted; None if no SHUFFLE has the CONTENTS that were seen."""
    return frame_with(book, seen_dict(knowledge), hints_row(book, knowledge))


def sights_from(book, knowledge):
    """The tuple of the SIGHTS of all DUNGEONS; None if no SHUFFLE has the CONTENTS that were seen."""
    return sights_with(book, seen_dict(knowledge))


def field_from(book, shuffle, knowledge):
    """The FIELD of the things, the keys lying as they do in a SHUFFLE that FITS."""
    keys = {place: True for place, content in zip(places_of(book), shuffle) if content in (KEY, BIG)}
    return field_with(book, seen_dict(knowledge), hints_row(book, knowledge), keys)
