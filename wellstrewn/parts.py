"""The PARTS of a DUNGEON in which keys are LAID."""

from wellstrewn.forms import is_lot


def branch_of(dungeon, v):
    """The LOT of a room and of all that hang on it, on and on."""
    branch = [v]
    for u in range(v + 1, len(dungeon[0])):
        if dungeon[0][u][0] in branch:
            branch.append(u)
    return tuple(branch)


def way_to(dungeon, v):
    """The LOT of the rooms on the way to a room, from the first room on."""
    way = [v]
    parent = dungeon[0][v][0]
    while parent is not None:
        way.append(parent)
        parent = dungeon[0][parent][0]
    return tuple(sorted(way))


def way_has_bar(dungeon, big):
    """Whether a room on the way to the room of the big key has the way "bar"; not if there is no big key."""
    return big is not None and any([dungeon[0][v][1] == "bar" for v in way_to(dungeon, big)])


def rim_of(dungeon, rooms):
    """The LOT of the rooms that are not in a LOT of rooms, but whose parent is."""
    return tuple([v for v, room in enumerate(dungeon[0]) if v not in rooms and room[0] in rooms])


def stands_right(dungeon, laid, lot, v):
    """Whether a room that is not the first one is in a LOT, or left out of it, as a PART has it."""
    parent, way, _ = dungeon[0][v]
    if parent not in lot:
        return v not in lot
    if way == "open":
        return v in lot
    if way == "bar":
        return (v in lot) == (laid[0] in lot)
    return True


def is_part(dungeon, laid, thing):
    """Whether any value is a PART."""
    many = len(dungeon[0])
    if not is_lot(thing, many) or 0 not in thing:
        return False
    return all([stands_right(dungeon, laid, thing, v) for v in range(1, many)])


def all_parts(dungeon, laid):
    """The list of all PARTS, ascending."""
    lots = [(0,)]
    for v in range(1, len(dungeon[0])):
        # A PART has with each room its parent: other LOTS need not be gone through.
        lots = lots + [(*lot, v) for lot in lots if dungeon[0][v][0] in lot]
    return sorted([lot for lot in lots if is_part(dungeon, laid, lot)])


def net_of(dungeon, laid, part):
    """The NET of a PART: its small keys, less its rooms whose way is "lock"."""
    keys = sum([laid[1][v] for v in part])
    return keys - len([v for v in part if dungeon[0][v][1] == "lock"])


def must_have(dungeon, laid, rooms, v):
    """Whether a PART that has all of some rooms, the first one among them, has a room for one reason at once."""
    parent, way, _ = dungeon[0][v]
    if v in rooms or v in [dungeon[0][u][0] for u in rooms]:
        return True
    if v == laid[0] and "bar" in [dungeon[0][u][1] for u in rooms]:
        return True
    return parent in rooms and (way == "open" or (way == "bar" and laid[0] in rooms))


def closed_part(dungeon, laid, rooms):
    """The least PART that has all of a LOT of rooms."""
    part = ()
    grown = rooms if 0 in rooms else (0, *rooms)
    while part != grown:
        part = grown
        grown = tuple([v for v in range(len(dungeon[0])) if must_have(dungeon, laid, part, v)])
    return part


def way_is_free(dungeon, laid, unlocked, part, v):
    """Whether one comes on from a PART to a room of its rim, if just some locks are unlocked."""
    way = dungeon[0][v][1]
    if way == "lock":
        return v in unlocked
    return way == "open" or laid[0] in part


def opened_part(dungeon, laid, rooms):
    """The LOT of the rooms that are come to if just a LOT of rooms with the way "lock" are unlocked."""
    part = ()
    come = (0,)
    while come != ():
        part = tuple(sorted(part + come))
        come = tuple([v for v in rim_of(dungeon, part) if way_is_free(dungeon, laid, rooms, part, v)])
    return part
