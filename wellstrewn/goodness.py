"""Whether a SHUFFLE is GOOD, and what breaks it if not."""

from wellstrewn.gathering import gathered
from wellstrewn.nets import is_enough, least_net, worst_part
from wellstrewn.parts import way_has_bar
from wellstrewn.places import dungeon_at, dungeon_spots, laid_at
from wellstrewn.regions import spots_off


def fault_of(book, shuffle):
    """The first thing that breaks a SHUFFLE, None if it is GOOD."""
    off = spots_off(book, gathered(book, shuffle))
    if off != ():
        return ("regions", off)
    rows = [(spot, dungeon_at(book, spot), laid_at(book, shuffle, spot)) for spot in dungeon_spots(book)]
    for spot, dungeon, laid in rows:
        if way_has_bar(dungeon, laid[0]):
            return ("bar", spot)
    for spot, dungeon, laid in rows:
        if not is_enough(least_net(dungeon, laid)):
            return ("net", spot, worst_part(dungeon, laid))
    return None


def is_good(book, shuffle):
    """Whether a SHUFFLE is GOOD."""
    return fault_of(book, shuffle) is None
