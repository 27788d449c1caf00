"""NET TABLES: the least NETS that the PARTS of a DUNGEON have, added up from the last room to the first."""

from wellstrewn.forms import is_same
from wellstrewn.parts import all_parts, branch_of, net_of, opened_part, rim_of, way_has_bar
from wellstrewn.places import is_barred


def least_of(one, other):
    """The lesser of two numbers, None standing for no number."""
    if one is None or other is None:
        return other if one is None else one
    return min(one, other)


def sum_of(one, other):
    """The sum of two numbers, None if one of them is none."""
    return None if one is None or other is None else one + other


def room_row(way, keys, has_big, barred):
    """The row of a NET TABLE of a room on which no others hang, with so many small keys in it."""
    net = keys - 1 if way == "lock" else keys
    return (None if has_big else net, None, net if barred else None, None)


def choice_row(way, row, leads_to_big):
    """The least that a room adds to the STUMPS of its parent, left out or not, each number as in its own row."""
    plain, less, opened, short = row
    if way == "open":
        return row
    if way == "bar":
        return (0, 0, opened, short)
    if leads_to_big:
        return (least_of(0, plain), least_of(0, less), opened, short)
    return (least_of(0, plain), least_of(0, less), least_of(0, opened), least_of(0, short))


def lacking_sum(least, lacking, other_least, other_lacking):
    """The least sum of two numbers of which at least one is of what lacks a room."""
    return least_of(sum_of(lacking, other_least), sum_of(least, other_lacking))


def joined_row(row, choice):
    """The row of a room, one more room hanging on it that adds its choice_row."""
    plain, less, opened, short = row
    plains = (sum_of(plain, choice[0]), lacking_sum(plain, less, choice[0], choice[1]))
    return (*plains, sum_of(opened, choice[2]), lacking_sum(opened, short, choice[2], choice[3]))


def net_table(dungeon, laid):
    """The NET TABLE of a DUNGEON."""
    big, small = laid
    rooms = dungeon[0]
    barred = is_barred(dungeon)
    rows = [room_row(room[1], small[v], v == big, barred) for v, room in enumerate(rooms)]
    # Whatever hangs on a room stands behind it: so its row is ready when it is joined to its parent's.
    for v in range(len(rooms) - 1, 0, -1):
        parent, way, _ = rooms[v]
        rows[parent] = joined_row(rows[parent], choice_row(way, rows[v], big in branch_of(dungeon, v)))
    return tuple(rows)


def is_net_table(dungeon, laid, thing):
    """Whether any value is the NET TABLE."""
    return is_same(thing, net_table(dungeon, laid))


def least_told(row):
    """The least NET of PARTS that are not all rooms, as the first row of a NET TABLE tells it."""
    return least_of(row[1], row[3])


def is_enough(net):
    """Whether a least NET, or None, lets nobody be stuck."""
    return net is None or net >= 1


def least_net(dungeon, laid):
    """The least NET of the PARTS that are not all rooms, None if there are none."""
    return least_told(net_table(dungeon, laid)[0])


def worst_part(dungeon, laid):
    """A PART that is not all rooms with the least NET of these, None if there is none."""
    least = least_net(dungeon, laid)
    for part in all_parts(dungeon, laid):
        if len(part) < len(dungeon[0]) and net_of(dungeon, laid, part) == least:
            return part
    return None


def are_keys_good(dungeon, laid):
    """Whether the way to the big key has no bar, and each PART that is not all rooms has a NET of at least 1."""
    return not way_has_bar(dungeon, laid[0]) and is_enough(least_net(dungeon, laid))


def locks_to_nought(dungeon, laid):
    """The rooms whose locks are opened one after the other till no key is left and rooms are, None if keys are enough.

    The way to the big key has no bar.
    """
    if is_enough(least_net(dungeon, laid)):
        return None
    worst = worst_part(dungeon, laid)
    locks = []
    come = opened_part(dungeon, laid, ())
    # Within the worst PART a lock is always left to be opened, and the NET falls by one at most: so it comes to 0.
    while net_of(dungeon, laid, come) != 0:
        rim = rim_of(dungeon, come)
        locks.append(min([v for v in rim if v in worst and dungeon[0][v][1] == "lock"]))
        come = opened_part(dungeon, laid, tuple(sorted(locks)))
    return tuple(locks)
