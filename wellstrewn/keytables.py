"""KEY LAYINGS of a DUNGEON, counted by the rows of the NET TABLES that they make."""

from math import comb

from wellstrewn.forms import is_index, is_lot, is_row
from wellstrewn.nets import are_keys_good, choice_row, is_enough, joined_row, least_told, room_row
from wellstrewn.parts import branch_of, way_has_bar
from wellstrewn.places import is_barred


def chests_in(dungeon):
    """The tuple of (room, index) of all chests, in order."""
    return tuple([(v, i) for v, room in enumerate(dungeon[0]) for i in range(room[2])])


def laid_by(dungeon, laying):
    """The LAID of a KEY LAYING."""
    big, small = laying
    rooms = [v for v, _ in chests_in(dungeon)]
    lying = [rooms[k] for k in small]
    return (None if big is None else rooms[big], tuple([lying.count(v) for v in range(len(dungeon[0]))]))


def has_key_form(dungeon, thing):
    """Whether any value is a KEY LAYING, good or not."""
    if not is_row(thing, 2):
        return False
    big, small = thing
    many = len(chests_in(dungeon))
    if not is_lot(small, many) or len(small) != dungeon[1]:
        return False
    if is_barred(dungeon):
        return is_index(big, many) and big not in small
    return big is None


def word_of(laying, k):
    """The word of what lies in a chest."""
    big, small = laying
    if k == big:
        return "big"
    return "key" if k in small else "other"


def lets(sight, laying):
    """Whether a SIGHT lets a KEY LAYING."""
    return all([word in ("any", word_of(laying, k)) for k, word in enumerate(sight)])


def is_key_laying(dungeon, sight, thing):
    """Whether any value is a good KEY LAYING that the SIGHT lets."""
    if not has_key_form(dungeon, thing):
        return False
    return lets(sight, thing) and are_keys_good(dungeon, laid_by(dungeon, thing))


def with_word(sight, k, word):
    """A SIGHT that has another word for a chest."""
    return (*sight[:k], word, *sight[k + 1:])


def with_big(sight, big):
    """A SIGHT where the big key is told to lie in a chest, or in none."""
    return sight if big is None else with_word(sight, big, "big")


def room_ways(room, words, has_big, dungeon):
    """In how many ways small keys are laid in a room whose chests have these words, by (keys, row of the room)."""
    told, free = words.count("key"), words.count("any")
    barred = is_barred(dungeon)
    ways = {}
    for keys in range(told, min(told + free, dungeon[1]) + 1):
        ways[(keys, room_row(room[1], keys, has_big, barred))] = comb(free, keys - told)
    return ways


def choice_ways(way, ways, leads_to_big):
    """The same by (keys, what the room adds to its parent's row)."""
    found = {}
    for (keys, row), many in ways.items():
        choice = (keys, choice_row(way, row, leads_to_big))
        found[choice] = found.get(choice, 0) + many
    return found


def joined_ways(ways, choices, most):
    """In how many ways keys, at most so many, are laid in a room and in one more that hangs on it."""
    found = {}
    for (keys, row), many in ways.items():
        for (more, choice), times in choices.items():
            if keys + more <= most:
                both = (keys + more, joined_row(row, choice))
                found[both] = found.get(both, 0) + many * times
    return found


def count_with_big(dungeon, sight, big):
    """The number of the good KEY LAYINGS that a SIGHT lets, of those with the big key in a chest that it lets have it.

    big is None where the DUNGEON is not BARRED, and the SIGHT has no "big" then.
    """
    rooms, keys = dungeon
    chests = chests_in(dungeon)
    home = None if big is None else chests[big][0]
    if way_has_bar(dungeon, home):
        return 0
    words = [[] for _ in rooms]
    for (v, _), word in zip(chests, with_big(sight, big)):
        words[v].append(word)
    tables = [room_ways(room, words[v], v == home, dungeon) for v, room in enumerate(rooms)]
    # Whatever hangs on a room stands behind it: so its table is ready when it is joined to its parent's.
    for v in range(len(rooms) - 1, 0, -1):
        parent, way, _ = rooms[v]
        choices = choice_ways(way, tables[v], home in branch_of(dungeon, v))
        tables[parent] = joined_ways(tables[parent], choices, keys)
    return sum([many for (laid, row), many in tables[0].items() if laid == keys and is_enough(least_told(row))])


def bigs_let(dungeon, sight):
    """The list of the chests in which a SIGHT lets the big key be; [None] if there is none, and the SIGHT has none."""
    told = [k for k, word in enumerate(sight) if word == "big"]
    if not is_barred(dungeon):
        return [None] if told == [] else []
    if told != []:
        return told if len(told) == 1 else []
    return [k for k, word in enumerate(sight) if word == "any"]


def counts_by_big(dungeon, sight):
    """The dict from what bigs_let tells to the number of the good KEY LAYINGS let that have the big key there."""
    chests = chests_in(dungeon)
    by_room = {}
    counts = {}
    for big in bigs_let(dungeon, sight):
        # The chests of one room in which it may be are alike.
        home = None if big is None else chests[big][0]
        if home not in by_room:
            by_room[home] = count_with_big(dungeon, sight, big)
        counts[big] = by_room[home]
    return counts


def count_key_layings(dungeon, sight):
    """The number of the good KEY LAYINGS that a SIGHT lets."""
    return sum(counts_by_big(dungeon, sight).values())


def key_counts(dungeon, sight):
    """The dict from the chests in which a SIGHT lets a big key be to the numbers of those that have it there.

    Of a DUNGEON that is not BARRED it has -1 alone.
    """
    if not is_barred(dungeon):
        return {-1: count_key_layings(dungeon, sight)}
    return counts_by_big(dungeon, sight)


def key_chances(dungeon, sight):
    """For each chest, in how many of the good KEY LAYINGS that a SIGHT lets a small key and the big key lie in it."""
    bigs = counts_by_big(dungeon, sight)
    by_room = {}
    chances = []
    for k, (v, _) in enumerate(chests_in(dungeon)):
        keys = sum(bigs.values()) if sight[k] == "key" else 0
        if sight[k] == "any":
            # So are the chests of one room of which nothing is told.
            if v not in by_room:
                by_room[v] = count_key_layings(dungeon, with_word(sight, k, "key"))
            keys = by_room[v]
        chances.append((keys, bigs.get(k, 0)))
    return tuple(chances)
