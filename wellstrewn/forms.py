"""Whether values have the forms that the document names, exactly of their kinds."""

from math import gcd

from wellstrewn.places import BIG, KEY, STRAW, dungeon_at, dungeon_spots, halls_of, keys_belonging, locked_halls
from wellstrewn.places import places_of

LETTERS = "abcdefghijklmnopqrstuvwxyz"
DIGITS = "0123456789"
WAYS = ("open", "lock", "bar")


def is_integer(thing):
    """Whether any value is an integer."""
    return isinstance(thing, int) and not isinstance(thing, bool)


def is_count(thing):
    """Whether any value is an integer from 0 on."""
    return is_integer(thing) and thing >= 0


def is_index(thing, many):
    """Whether any value is an integer from 0 on, and below many."""
    return is_integer(thing) and 0 <= thing < many


def is_row(thing, length):
    """Whether any value is a tuple of this length."""
    return isinstance(thing, tuple) and len(thing) == length


def is_filled(thing):
    """Whether any value is a tuple, and not ()."""
    return isinstance(thing, tuple) and len(thing) > 0


def is_integer_row(thing, length):
    """Whether any value is a tuple of so many integers."""
    return is_row(thing, length) and all([is_integer(part) for part in thing])


def is_ascending(row):
    """Whether each part of a tuple is more than the one ahead of it."""
    return all([one < other for one, other in zip(row, row[1:])])


def is_lot(thing, many):
    """Whether any value is a LOT of indexes below many."""
    if not isinstance(thing, tuple) or not all([is_index(part, many) for part in thing]):
        return False
    return is_ascending(thing)


def is_lot_among(thing, length, rows):
    """Whether any value is a LOT of some of these rows, tuples of so many integers."""
    # The kinds come first: with == alone a truth would pass for an integer.
    if not isinstance(thing, tuple) or not all([is_integer_row(row, length) for row in thing]):
        return False
    known = {row: True for row in rows}
    return is_ascending(thing) and all([row in known for row in thing])


def is_name(thing):
    """Whether any value is a NAME."""
    if not isinstance(thing, str) or not 1 <= len(thing) <= 12:
        return False
    return thing[0] in LETTERS and all([sign in LETTERS + DIGITS for sign in thing])


def has_unlike_names(rows):
    """Whether tuples that begin with strings begin with unlike ones."""
    return len({row[0] for row in rows}) == len(rows)


def is_fraction(thing):
    """Whether any value is a FRACTION."""
    if not is_integer_row(thing, 2):
        return False
    n, d = thing
    return d >= 1 and gcd(n, d) == 1


def reduced(n, d):
    """The FRACTION that is n parted by d, d being from 1 on."""
    common = gcd(n, d)
    return (n // common, d // common)


def is_room(thing, v):
    """Whether any value is a ROOM that has the index v in its DUNGEON."""
    if not is_row(thing, 3) or not is_count(thing[2]):
        return False
    parent, way, _ = thing
    if v == 0:
        return parent is None and way is None
    return is_index(parent, v) and way in WAYS


def is_dungeon(thing):
    """Whether any value is a DUNGEON."""
    if not is_row(thing, 2) or not is_filled(thing[0]) or not is_count(thing[1]):
        return False
    return all([is_room(room, v) for v, room in enumerate(thing[0])])


def is_region(thing):
    """Whether any value is a REGION."""
    if not is_row(thing, 3):
        return False
    name, chests, dungeon = thing
    return is_name(name) and is_count(chests) and (dungeon is None or is_dungeon(dungeon))


def is_arrow(thing, many, w, owners):
    """Whether any value is an ARROW of the world w with many regions, where things have these owners."""
    if not is_row(thing, 3):
        return False
    one, other, needs = thing
    if not is_index(one, many) or not is_index(other, many) or not is_lot(needs, len(owners)):
        return False
    return all([owners[t] == w for t in needs])


def is_world(thing, w, owners):
    """Whether any value is a WORLD that has the index w in a BOOK, where things have these owners."""
    if not is_row(thing, 3) or not is_name(thing[0]):
        return False
    _, regions, arrows = thing
    if not is_filled(regions) or not all([is_region(region) for region in regions]):
        return False
    if not has_unlike_names(regions) or not isinstance(arrows, tuple):
        return False
    return all([is_arrow(arrow, len(regions), w, owners) for arrow in arrows])


def are_things(thing, many):
    """Whether any value is what a BOOK with many worlds can have as things."""
    if not isinstance(thing, tuple) or not all([is_row(row, 2) for row in thing]):
        return False
    if not all([is_name(name) and is_index(owner, many) for name, owner in thing]):
        return False
    return has_unlike_names(thing)


def is_book(thing):
    """Whether any value is a BOOK."""
    if not is_row(thing, 2):
        return False
    worlds, things = thing
    if not is_filled(worlds) or not are_things(things, len(worlds)):
        return False
    owners = [row[1] for row in things]
    if not all([is_world(world, w, owners) for w, world in enumerate(worlds)]):
        return False
    return has_unlike_names(worlds)


def is_content(book, thing):
    """Whether any value is a CONTENT."""
    if is_row(thing, 2):
        return thing[0] == "thing" and is_index(thing[1], len(book[1]))
    return thing in (STRAW, KEY, BIG)


def are_keys_home(book, shuffle):
    """Whether each DUNGEON has the keys that belong to it, and no key lies elsewhere, in a tuple of CONTENTS."""
    pairs = list(zip(places_of(book), shuffle))
    for content in (KEY, BIG):
        lying = [place for place, other in pairs if other == content]
        if not all([place[2] != -1 for place in lying]):
            return False
        for spot in dungeon_spots(book):
            many = len([place for place in lying if place[:2] == spot])
            if many != keys_belonging(dungeon_at(book, spot), content):
                return False
    return True


def is_shuffle(book, thing):
    """Whether any value is a SHUFFLE of a BOOK."""
    if not is_row(thing, len(places_of(book))) or not all([is_content(book, content) for content in thing]):
        return False
    things = [content[1] for content in thing if content[0] == "thing"]
    return sorted(things) == list(range(len(book[1]))) and are_keys_home(book, thing)


def is_place(book, thing):
    """Whether any value is one of the PLACES."""
    return is_integer_row(thing, 4) and thing in places_of(book)


def is_hall(book, thing):
    """Whether any value is one of the HALLS."""
    return is_integer_row(thing, 3) and thing in halls_of(book)


def is_deed(book, thing):
    """Whether any value has the form of a DEED, whether it may be done in some STATE or not."""
    if not is_row(thing, 2):
        return False
    word, what = thing
    if word == "open":
        return is_place(book, what)
    if word == "unlock":
        return is_hall(book, what)
    return word == "leave" and is_index(what, len(book[0]))


def is_state(book, thing):
    """Whether any value is a STATE, whether some PLAY leads to it or not."""
    if not is_row(thing, 3):
        return False
    opened, unlocked, gone = thing
    if not is_lot_among(opened, 4, places_of(book)) or not is_lot_among(unlocked, 3, locked_halls(book)):
        return False
    return is_lot(gone, len(book[0]))


def is_same(thing, right):
    """Whether any value is just a right one, a tuple of integers, None and such tuples."""
    # With == alone a truth would pass for an integer.
    if isinstance(right, tuple):
        return is_row(thing, len(right)) and all([is_same(one, other) for one, other in zip(thing, right)])
    if right is None:
        return thing is None
    return is_integer(thing) and thing == right
