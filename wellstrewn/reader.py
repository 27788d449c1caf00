"""BOOKS, SHUFFLES and DEEDS read from the texts that show them."""

from wellstrewn.errors import NoText, Wrong
from wellstrewn.forms import DIGITS, WAYS, is_name, is_shuffle
from wellstrewn.places import STRAW, all_places_at, dungeon_at, keys_belonging, places_of


class Draft:
    """A BOOK of which some lines are read: each world a list [name, regions, arrows] with lists of these."""

    def __init__(self):
        self.worlds = []
        self.things = []

    def last_region(self):
        """The last REGION of the last world, None if that has none."""
        if not self.worlds or not self.worlds[-1][1]:
            return None
        return self.worlds[-1][1][-1]

    def is_complete(self):
        """Whether there is a world, and none without a REGION."""
        return len(self.worlds) > 0 and all([len(world[1]) > 0 for world in self.worlds])

    def as_book(self):
        """The BOOK of the lines read."""
        worlds = [(name, tuple(regions), tuple(arrows)) for name, regions, arrows in self.worlds]
        return (tuple(worlds), tuple(self.things))


def words_of(line):
    """The words of a line, which blanks alone part."""
    return [word for word in line.split(" ") if word != ""]


def integer_from(word, most):
    """The integer from 0 on that a word shows as Python does, in at most so many digits; None if it shows none."""
    if not 1 <= len(word) <= most or not all([sign in DIGITS for sign in word]):
        return None
    return int(word) if word == "0" or word[0] != "0" else None


def number_from(word):
    """The integer that a word shows as a NUMBER, None if it shows none."""
    return integer_from(word, 9)


def index_named(name, rows):
    """The index of the row that begins with a name, None if there is none."""
    names = [row[0] for row in rows]
    return names.index(name) if name in names else None


def is_new_name(word, rows):
    """Whether a word is a NAME with which no row begins."""
    return is_name(word) and index_named(word, rows) is None


def take_world(draft, words):
    """Takes NAME behind `world`, if it may stand there."""
    if len(words) != 1 or not is_new_name(words[0], draft.worlds):
        return False
    draft.worlds.append([words[0], [], []])
    return True


def take_region(draft, words):
    """Takes NAME CHESTS behind `region`, if they may stand there."""
    if len(words) != 2 or not draft.worlds:
        return False
    regions = draft.worlds[-1][1]
    chests = number_from(words[1])
    if chests is None or not is_new_name(words[0], regions):
        return False
    regions.append((words[0], chests, None))
    return True


def put_dungeon(draft, dungeon):
    """Gives the last REGION a DUNGEON, in the place of the one that it had."""
    name, chests, _ = draft.last_region()
    draft.worlds[-1][1][-1] = (name, chests, dungeon)


def take_dungeon(draft, words):
    """Takes KEYS CHESTS behind `dungeon`, if they may stand there."""
    region = draft.last_region()
    numbers = [number_from(word) for word in words]
    if len(words) != 2 or None in numbers or region is None or region[2] is not None:
        return False
    keys, chests = numbers
    put_dungeon(draft, (((None, None, chests),), keys))
    return True


def take_room(draft, words):
    """Takes WAY PARENT CHESTS behind `room`, if they may stand there."""
    region = draft.last_region()
    if len(words) != 3 or words[0] not in WAYS or region is None or region[2] is None:
        return False
    rooms, keys = region[2]
    parent, chests = number_from(words[1]), number_from(words[2])
    if parent is None or chests is None or parent >= len(rooms):
        return False
    put_dungeon(draft, ((*rooms, (parent, words[0], chests)), keys))
    return True


def take_thing(draft, words):
    """Takes NAME WORLD behind `thing`, if they may stand there."""
    if len(words) != 2 or not is_new_name(words[0], draft.things):
        return False
    owner = index_named(words[1], draft.worlds)
    if owner is None:
        return False
    draft.things.append((words[0], owner))
    return True


def take_arrow(draft, words):
    """Takes WORLD ONE OTHER THING .. behind `arrow`, if they may stand there."""
    w = index_named(words[0], draft.worlds) if len(words) >= 3 else None
    if w is None:
        return False
    _, regions, arrows = draft.worlds[w]
    one, other = index_named(words[1], regions), index_named(words[2], regions)
    needs = [index_named(word, draft.things) for word in words[3:]]
    if one is None or other is None or None in needs or len(set(needs)) != len(needs):
        return False
    if not all([draft.things[t][1] == w for t in needs]):
        return False
    arrows.append((one, other, tuple(sorted(needs))))
    return True


TAKERS = {
    "world": take_world,
    "region": take_region,
    "dungeon": take_dungeon,
    "room": take_room,
    "thing": take_thing,
    "arrow": take_arrow,
}


def take_line(draft, words):
    """Takes the words of a line, at least one, and tells whether they may stand there."""
    if words[0] not in TAKERS:
        return False
    taker = TAKERS[words[0]]
    return taker(draft, words[1:])


def read_book(text):
    """The BOOK that a text shows."""
    if not isinstance(text, str):
        raise Wrong(0)
    draft = Draft()
    lines = text.split("\n")
    for k, line in enumerate(lines):
        words = words_of(line)
        if words and not take_line(draft, words):
            raise NoText(k)
    if not draft.is_complete():
        raise NoText(len(lines))
    return draft.as_book()


def spot_from(book, words):
    """The SPOT that the words WORLD REGION show, None if they show none."""
    w = index_named(words[0], book[0])
    r = None if w is None else index_named(words[1], book[0][w][1])
    return None if r is None else (w, r)


def place_from(book, words):
    """The PLACE that words show, None if they show none."""
    if len(words) not in (3, 4):
        return None
    spot = spot_from(book, words)
    numbers = [number_from(word) for word in words[2:]]
    if spot is None or None in numbers:
        return None
    inside = [-1] if len(numbers) == 1 else []
    place = (*spot, *inside, *numbers)
    return place if place in all_places_at(book, spot) else None


def hall_from(book, words):
    """The HALL that the words WORLD REGION V show, None if they show none."""
    spot = spot_from(book, words) if len(words) == 3 else None
    dungeon = None if spot is None else dungeon_at(book, spot)
    v = number_from(words[2]) if dungeon is not None else None
    return None if v is None or v >= len(dungeon[0]) else (*spot, v)


def content_from(book, words):
    """The CONTENT that words show, None if they show none that is not straw."""
    if words in (["key"], ["big"]):
        return (words[0],)
    if len(words) != 2 or words[0] != "thing":
        return None
    t = index_named(words[1], book[1])
    return None if t is None else ("thing", t)


def may_lay(book, laid, place, content):
    """Whether a CONTENT but straw may be laid into a PLACE, where the dict has what is laid already."""
    if place in laid:
        return False
    if content[0] == "thing":
        return content not in list(laid.values())
    if place[2] == -1:
        return False
    spot = place[:2]
    alike = [other for other in laid if other[:2] == spot and laid[other] == content]
    return len(alike) < keys_belonging(dungeon_at(book, spot), content)


def take_lying(book, laid, words):
    """Takes the words of a line of a SHUFFLE, at least one, and tells whether they may stand there."""
    many = 2 if words[0] == "thing" else 1
    content = content_from(book, words[:many])
    place = place_from(book, words[many:])
    if content is None or place is None or not may_lay(book, laid, place, content):
        return False
    laid[place] = content
    return True


def read_shuffle(book, text):
    """The SHUFFLE that a text shows."""
    if not isinstance(text, str):
        raise Wrong(1)
    laid = {}
    lines = text.split("\n")
    for k, line in enumerate(lines):
        words = words_of(line)
        if words and not take_lying(book, laid, words):
            raise NoText(k)
    shuffle = tuple([laid.get(place, STRAW) for place in places_of(book)])
    if not is_shuffle(book, shuffle):
        raise NoText(len(lines))
    return shuffle


def deed_from(book, words):
    """The DEED that words show, None if they show none."""
    if len(words) < 2:
        return None
    word, rest = words[0], words[1:]
    what = None
    if word == "open":
        what = place_from(book, rest)
    elif word == "unlock":
        what = hall_from(book, rest)
    elif word == "leave" and len(rest) == 1:
        what = index_named(rest[0], book[0])
    return None if what is None else (word, what)


def read_deed(book, text):
    """The DEED whose line a text shows."""
    if not isinstance(text, str):
        raise Wrong(1)
    deed = None if "\n" in text else deed_from(book, words_of(text))
    if deed is None:
        raise NoText(0)
    return deed
