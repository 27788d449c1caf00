"""Small books all SHUFFLES of which are gone through, and large ones."""

import random

from tests import reckon, support
from tests.test_gathering import all_of, rounds_by_hand
from tests.test_goodness import laid_by_hand
from tests.test_keytables import LARGE
from tests.test_nets import hand_has_bar, least_by_hand
from tests.test_thingtables import Large

STRAW, KEY, BIG = ("straw",), ("key",), ("big",)
NOTHING = ((), ())

# Its hook lies where the hook is asked: none of its SHUFFLES is GOOD.
NONE_GOOD = ((("w", (("a", 0, None), ("b", 2, None)), ((0, 1, (0,)),)),), (("hook", 0),))
# More keys than chests, a big key without a chest, more things than chests, a key that would have to lie outside.
NO_SHUFFLE = (
    ((("a", (("x", 3, (((None, None, 1),), 2)),), ()),), ()),
    ((("a", (("x", 3, (((None, None, 0), (0, "bar", 0)), 0)),), ()),), (("t", 0),)),
    ((("a", (("x", 1, None),), ()),), (("s", 0), ("t", 0))),
    ((("a", (("x", 2, (((None, None, 1), (0, "bar", 0)), 1)),), ()),), ()),
    ((("a", (("x", 0, (((None, None, 1),), 1)), ("y", 1, None)), ((0, 1, ()),)),), (("s", 0), ("t", 0))),
)


def telling_by_hand(book, shuffle):
    lying = reckon.lying(book, shuffle)
    keys = []
    for spot in sorted(reckon.dungeons(book)):
        at = {word: tuple([place for place in sorted(lying) if place[:2] == spot and lying[place] == word])
              for word in (KEY, BIG)}
        keys.append((at[BIG][0] if at[BIG] else (), at[KEY]))
    homes = {content: place for place, content in lying.items()}
    return (tuple(keys), tuple([homes[("thing", t)] for t in range(len(book[1]))]))


KEPT = {}


def are_keys_good(dungeon, laid):
    if (dungeon, laid) not in KEPT:
        least = least_by_hand(dungeon, laid)
        KEPT[(dungeon, laid)] = not hand_has_bar(dungeon, laid[0]) and (least is None or least >= 1)
    return KEPT[(dungeon, laid)]


def is_good_by_hand(book, shuffle):
    if not all(are_keys_good(*laid_by_hand(book, shuffle, spot)) for spot in reckon.dungeons(book)):
        return False
    return support.spots_with(book, all_of(rounds_by_hand(book, shuffle, ()))) == tuple(support.spots_in_order(book))


class Gone:
    """A book with all its SHUFFLES, and with the GOOD ones in the order of their TELLINGS."""

    def __init__(self, book):
        self.book = book
        self.all = support.all_shuffles(book)
        self.tellings = {shuffle: telling_by_hand(book, shuffle) for shuffle in self.all}
        good = [shuffle for shuffle in self.all if is_good_by_hand(book, shuffle)]
        self.good = sorted(good, key=lambda shuffle: self.tellings[shuffle])

    def fitting(self, knowledge):
        """The GOOD SHUFFLES that FIT, in order."""
        return [shuffle for shuffle in self.good if fits_by_hand(self.book, shuffle, knowledge)]


def fits_by_hand(book, shuffle, knowledge):
    lying = reckon.lying(book, shuffle)
    homes = {content: place[:2] for place, content in lying.items()}
    seen, hints = knowledge
    return (all(lying[place] == content for place, content in seen)
            and all(homes[("thing", t)] in spots for t, spots in hints))


def tiny_book(rng):
    many = rng.choice((1, 1, 2))
    owners = [rng.randrange(many) for _ in range(rng.randint(0, 3))]
    worlds = [reckon.tiny_world(rng, w, [t for t, owner in enumerate(owners) if owner == w]) for w in range(many)]
    return (tuple(worlds), tuple([("t%d" % t, owner) for t, owner in enumerate(owners)]))


def tiny_books(many, seed, most=9):
    """Books with few PLACES, most of them with some GOOD SHUFFLES and some others."""
    rng = random.Random(seed)
    found = []
    while len(found) < many:
        book = tiny_book(rng)
        if 3 <= len(support.places_in_order(book)) <= most:
            gone = Gone(book)
            some = 3 <= len(gone.good) < len(gone.all) <= 2500
            if some or (gone.good and rng.random() < 0.03) or rng.random() < 0.01:
                found.append(gone)
    return found


TINY = [Gone(book) for book in (*support.SMALL_BOOKS, NONE_GOOD, *NO_SHUFFLE)] + tiny_books(50, 200)
SOME_GOOD = [gone for gone in TINY if gone.good]


def some_knowledge(rng, gone):
    """A KNOWLEDGE: of some SHUFFLE, GOOD or not, with hints that are true or not, perhaps with one CONTENT otherwise."""
    book = gone.book
    pool = gone.good if gone.good and rng.random() < 0.8 else gone.all
    lying = reckon.lying(book, rng.choice(pool)) if pool else {}
    seen = {place: lying[place] for place in support.some_lot(rng, lying)[:rng.randint(0, 5)]}
    places = support.places_in_order(book)
    if places and rng.random() < 0.15:
        seen[rng.choice(places)] = rng.choice(contents_of(book))
    spots = support.spots_in_order(book)
    hints = []
    for t in range(len(book[1])):
        if rng.random() < 0.25:
            hints.append((t, tuple(sorted(rng.sample(spots, rng.randint(1, len(spots)))))))
    return (tuple(sorted(seen.items())), tuple(hints))


def contents_of(book):
    return [BIG, KEY, STRAW] + [("thing", t) for t in range(len(book[1]))]


def large_book(asked=range(6)):
    """A book as large as the bounds allow: 378 PLACES, nine DUNGEONS of ten rooms, twelve things."""
    base = Large().book(asked)
    worlds = []
    for name, regions, arrows in base[0]:
        rows = [(label, chests, LARGE if r in (2, 6, 9) else None) for r, (label, chests, _) in enumerate(regions)]
        worlds.append((name, tuple(rows), arrows))
    return (tuple(worlds), base[1])
