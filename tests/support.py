"""Books, shuffles and values for the tests, and what is right reckoned in other ways than the package does."""

import copy
import itertools
import random

from wellstrewn import errors

KEEP = (((None, None, 1), (0, "lock", 2)), 1)
VAULT = (((None, None, 2), (0, "lock", 1), (0, "bar", 1), (2, "open", 1)), 2)
NOOK = (((None, None, 0),), 0)

SMALL_BOOKS = (
    ((("a", (("x", 0, None),), ()),), ()),
    ((("a", (("x", 2, None),), ()),), (("hook", 0),)),
    ((("north", (("camp", 1, None), ("keep", 1, KEEP)), ((0, 1, (0,)),)),), (("hook", 0), ("coin", 0))),
    ((("w", (("home", 1, (((None, None, 1), (0, "bar", 1)), 1)),), ((0, 0, ()),)),), (("bell", 0),)),
    ((("n", (("c", 1, None), ("k", 0, KEEP)), ((0, 1, (0,)), (1, 0, ()))), ("s", (("y", 1, None),), ())),
     (("hook", 0), ("coin", 1))),
    ((("one", (("p", 1, (((None, None, 1), (0, "lock", 0)), 1)), ("q", 0, (((None, None, 1), (0, "bar", 1)), 0))),
       ((0, 1, (1,)), (0, 1, (1,)))), ("two", (("p", 0, NOOK),), ())), (("coin", 1), ("hook", 0))),
    # Its keys find no chests, so it has no SHUFFLE.
    ((("a", (("x", 3, (((None, None, 1),), 2)),), ()),), ()),
)

STRANGE = (
    None, True, False, 0, 1, -1, 10 ** 39, "", "a", "straw", "a\nb", " ", "x" * 12000, (), [], {}, ((),), [()],
    ((), ()),
    ((), (), ()), (0,), [0], (0, 1), (0, 1, 2), ("straw",), ["straw"], ("thing", 0), {"thing": 0}, {0: ()},
    (None, None),
    errors.StrewError(), errors.Wrong(0), errors.NotGood(), ([],), (({},),), ("open", ()), ("leave", None),
    (((((0,),), ),),),
)


def subsets(rows):
    """All LOTS of some of the ascending rows."""
    return [lot for many in range(len(rows) + 1) for lot in itertools.combinations(rows, many)]


def changed_at(row, k, part):
    return row[:k] + (part,) + row[k + 1:]


def others_for(value):
    """Values that are like one, but otherwise as a whole."""
    found = [None, True, False, "x", (), [], {}, (value,), [value], -1, 99]
    if type(value) is int:
        found += [value + 1, value - 1, str(value), bool(value), -value]
    if type(value) is str:
        found += [value + "s", value[:-1], value.upper(), [value], value + " ", "open", "lock", "bar", "key", "big"]
    if type(value) is tuple:
        found += [list(value), value + (0,), value + value[-1:], value + (None,), value[::-1], dict(enumerate(value))]
        found += [value[:k] + value[k + 1:] for k in range(len(value))]
        found += [value[:k] + value[k - 1:k + 1][::-1] + value[k + 1:] for k in range(1, len(value))]
        found += [changed_at(value, k, value[k - 1]) for k in range(1, len(value))]
    return found


def mutants(value):
    """Values that are like one, but otherwise in one part, at any depth."""
    found = others_for(value)
    if type(value) is tuple:
        for k, part in enumerate(value):
            found += [changed_at(value, k, other) for other in mutants(part)]
    return found


def some_dungeon(rng, rooms):
    made = [(None, None, rng.randint(0, 3))]
    for v in range(1, rooms):
        made.append((rng.randrange(v), rng.choice(("open", "lock", "lock", "bar")), rng.randint(0, 3)))
    return (tuple(made), rng.randint(0, 3))


def some_lot(rng, rows):
    return tuple(sorted(rng.sample(list(rows), rng.randint(0, len(rows)))))


def some_world(rng, w, owners):
    regions = []
    many = rng.randint(1, 6)
    for r in range(many):
        dungeon = some_dungeon(rng, rng.randint(1, 6)) if rng.random() < 0.4 else None
        regions.append(("r%d" % r, rng.randint(0, 3), dungeon))
    own = [t for t, owner in enumerate(owners) if owner == w]
    arrows = []
    for _ in range(rng.randint(0, 10)):
        needs = tuple(sorted(rng.sample(own, rng.randint(0, min(2, len(own))))))
        arrows.append((rng.randrange(many), rng.randrange(many), needs))
    if arrows and rng.random() < 0.3:
        arrows.append(arrows[0])
    return ("w%d" % w, tuple(regions), tuple(arrows))


def some_book(rng):
    many = rng.randint(1, 3)
    owners = [rng.randrange(many) for _ in range(rng.randint(0, 5))]
    worlds = tuple([some_world(rng, w, owners) for w in range(many)])
    return (worlds, tuple([("t%d" % t, owner) for t, owner in enumerate(owners)]))


def some_books(many, seed):
    rng = random.Random(seed)
    return [some_book(rng) for _ in range(many)]


def spots_in_order(book):
    found = []
    for w in range(len(book[0])):
        for r in range(len(book[0][w][1])):
            found.append((w, r))
    return found


def places_in_order(book):
    found = []
    for w, r in spots_in_order(book):
        _, chests, dungeon = book[0][w][1][r]
        found += [(w, r, -1, i) for i in range(chests)]
        for v, room in enumerate(dungeon[0] if dungeon else ()):
            found += [(w, r, v, i) for i in range(room[2])]
    return found


def halls_in_order(book):
    dungeons = [(w, r, book[0][w][1][r][2]) for w, r in spots_in_order(book)]
    return [(w, r, v) for w, r, dungeon in dungeons if dungeon for v in range(len(dungeon[0]))]


def shuffle_with(book, keys, things):
    """The tuple of CONTENTS where keys has (place, content), and things the PLACE of each thing."""
    lying = dict(keys)
    lying.update({place: ("thing", t) for t, place in enumerate(things)})
    return tuple([lying.get(place, ("straw",)) for place in places_in_order(book)])


def key_choices(book, spot):
    """The ways to lay the keys of the DUNGEON at a SPOT, each a tuple of (place, content)."""
    w, r = spot
    rooms, keys = book[0][w][1][r][2]
    inside = [place for place in places_in_order(book) if place[:2] == spot and place[2] >= 0]
    bigs = [(place,) for place in inside] if "bar" in [room[1] for room in rooms] else [()]
    found = []
    for big in bigs:
        left = [place for place in inside if place not in big]
        for small in itertools.combinations(left, keys):
            found.append([(place, ("big",)) for place in big] + [(place, ("key",)) for place in small])
    return found


def all_shuffles(book):
    """All SHUFFLES of a small BOOK."""
    spots = [(w, r) for w, r in spots_in_order(book) if book[0][w][1][r][2] is not None]
    found = []
    for choice in itertools.product(*[key_choices(book, spot) for spot in spots]):
        keys = [pair for part in choice for pair in part]
        taken = [place for place, _ in keys]
        free = [place for place in places_in_order(book) if place not in taken]
        for things in itertools.permutations(free, len(book[1])):
            found.append(shuffle_with(book, keys, things))
    return found


def some_shuffle(rng, book):
    """A SHUFFLE of a BOOK, None if the keys or things find no chests."""
    keys = []
    for w, r in spots_in_order(book):
        if book[0][w][1][r][2] is not None:
            rooms, many = book[0][w][1][r][2]
            inside = [place for place in places_in_order(book) if place[:2] == (w, r) and place[2] >= 0]
            bigs = 1 if "bar" in [room[1] for room in rooms] else 0
            if len(inside) < many + bigs:
                return None
            taken = rng.sample(inside, many + bigs)
            keys += [(place, ("big",)) for place in taken[:bigs]] + [(place, ("key",)) for place in taken[bigs:]]
    used = [place for place, _ in keys]
    free = [place for place in places_in_order(book) if place not in used]
    if len(free) < len(book[1]):
        return None
    return shuffle_with(book, keys, rng.sample(free, len(book[1])))


def books_with_shuffles(many, seed):
    """Books with a SHUFFLE each."""
    rng = random.Random(seed)
    found = []
    while len(found) < many:
        book = some_book(rng)
        shuffle = some_shuffle(rng, book)
        if shuffle is not None:
            found.append((book, shuffle))
    return found


def spots_with(book, held):
    """The REACHED SPOTS, by setting out again and again over all ARROWS."""
    reached = {(w, 0) for w in range(len(book[0]))}
    for _ in range(1 + len(spots_in_order(book))):
        for w, world in enumerate(book[0]):
            for one, other, needs in world[2]:
                if (w, one) in reached and set(needs) <= set(held):
                    reached.add((w, other))
    return tuple(sorted(reached))


class SameAgain:
    """Mixed into a TestCase: answers that are the same again, of arguments that stay."""

    def answer(self, function, *arguments):
        other = copy.deepcopy(arguments)
        # Errors are alike only in what they show, and so are truths and integers unlike.
        before = repr(arguments)
        first = function(*arguments)
        again = function(*other)
        self.assertEqual(repr(first), repr(again))
        self.assertEqual((repr(arguments), repr(other)), (before, before))
        return first

    def says(self, function, *arguments):
        """Whether a function that tells whether something is so answers True; it has to answer a truth."""
        found = self.answer(function, *arguments)
        self.assertIs(type(found), bool)
        return found
