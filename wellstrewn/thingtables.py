"""Ways to lay things by SPOTS such that they lead on, counted by the LOTS of ASKED things that are gathered.

A LOT of ASKED things is told by a mask here: bit k stands for the k-th one of them.
"""

from math import perm

from wellstrewn.places import asked_things, spots_of
from wellstrewn.regions import reached_spots


class Chart:
    """What each LOT of ASKED things of a BOOK reaches, looked through once for all FRAMES that are asked of it.

    lots, sizes and parts are indexed by masks: sizes has how many things there are, parts the list of the lesser masks
    within one. reach has for each SPOT an integer whose bits tell by which masks it is reached. gathered keeps what
    ways_of_all answered.
    """

    def __init__(self, book):
        self.asked = asked_things(book)
        self.spots = spots_of(book)
        self.lots = lots_among(self.asked)
        self.sizes = [len(lot) for lot in self.lots]
        self.parts = [parts_within(mask) for mask in range(len(self.lots))]
        self.gathered = {}
        self.reach = {spot: 0 for spot in self.spots}
        for mask, lot in enumerate(self.lots):
            for spot in reached_spots(book, lot):
                self.reach[spot] += 1 << mask

    def leads_everywhere(self):
        """Whether all SPOTS are reached with all things."""
        last = len(self.lots) - 1
        return all([bits >> last & 1 == 1 for bits in self.reach.values()])

    def ways_of_all(self, cells, lying):
        """In how many ways all ASKED things are laid and gathered, as ways_by_mask tells it."""
        # Where hints are or things are numbered, the same is asked again and again.
        case = (cells, lying)
        if case not in self.gathered:
            self.gathered[case] = ways_by_mask(self, cells, lying)[-1]
        return self.gathered[case]


def lots_among(things):
    """The list of all LOTS of some things, by their masks."""
    lots = [()]
    for t in things:
        lots = lots + [(*lot, t) for lot in lots]
    return lots


def parts_within(mask):
    """The list of the masks that have some bits of a mask, but not all."""
    return [part for part in range(mask) if part & mask == part]


def reach_table(book):
    """The dict from all LOTS of ASKED things to the LOTS of the SPOTS that are reached with just these."""
    return {lot: reached_spots(book, lot) for lot in sorted(lots_among(asked_things(book)))}


def ways_by_mask(chart, cells, lying):
    """For each mask, in how many ways its things are laid where it reaches, such that all of them are gathered.

    cells has pairs (kind, free chests), as cells_of tells them; lying has pairs (thing, bits of the SPOT) of the things
    that are told.
    """
    size = len(chart.lots)
    told = [(1 << chart.asked.index(t), bits) for t, bits in lying]
    fixed = sum([bit for bit, _ in told])
    free = [sum([chests for kind, chests in cells if kind[0] >> mask & 1 == 1]) for mask in range(size)]
    come = [sum([bit for bit, bits in told if bits >> mask & 1 == 1]) for mask in range(size)]
    loose = [chart.sizes[mask & ~fixed] for mask in range(size)]
    ways = []
    for mask in range(size):
        many = 0
        if mask & fixed & ~come[mask] == 0:
            many = perm(free[mask], loose[mask])
            # Whatever is laid gathers just one part; the rest then lies where this part doesn't reach.
            for part in chart.parts[mask]:
                rest = mask ^ part
                if ways[part] > 0 and rest & come[part] == 0:
                    many -= ways[part] * perm(free[mask] - free[part], loose[rest])
        ways.append(many)
    return ways


def told_bits(chart, told):
    """The tuple of (thing, bits of reach of its SPOT) of the ASKED things that are told."""
    return tuple([(t, chart.reach[told[t]]) for t in chart.asked if told[t] is not None])


def ways_gathering(book, frame):
    """The dict from all LOTS of ASKED things to the numbers of ways to lay and gather them, without hints."""
    free, told, _ = frame
    chart = Chart(book)
    ways = ways_by_mask(chart, cells_of(chart, free, []), told_bits(chart, told))
    by_lot = {lot: ways[mask] for mask, lot in enumerate(chart.lots)}
    return {lot: by_lot[lot] for lot in sorted(by_lot)}


def do_told_fit(told, hints):
    """Whether hints hold of the things that are told."""
    return all([spot is None or lot is None or spot in lot for spot, lot in zip(told, hints)])


def cells_of(chart, free, lots):
    """The tuple of the pairs (kind of SPOTS, how many chests are free there).

    The kind of a SPOT is (bits of its reach, whether it is in each of some LOTS): SPOTS of one kind are alike.
    """
    cells = {}
    for spot, many in zip(chart.spots, free):
        kind = (chart.reach[spot], tuple([spot in lot for lot in lots]))
        cells[kind] = cells.get(kind, 0) + many
    return tuple(sorted(cells.items()))


def cells_behind(cells, taken):
    """The cells of what is left behind laying a thing at a kind, the LOT of its hint being no longer asked."""
    left = {}
    for (bits, hinted), many in cells:
        kind = (bits, hinted[1:])
        left[kind] = left.get(kind, 0) + (many - 1 if (bits, hinted) == taken else many)
    return tuple(sorted(left.items()))


def hint_laid(chart, states, t):
    """The states behind laying a thing wherever the first LOT of the cells lets it lie.

    States are a dict from (cells, told_bits) to in how many ways one comes to them.
    """
    later = {}
    for (cells, lying), ways in states.items():
        for kind, many in cells:
            if kind[1][0] and many > 0:
                told = (*lying, (t, kind[0])) if t in chart.asked else lying
                state = (cells_behind(cells, kind), told)
                later[state] = later.get(state, 0) + ways * many
    return later


def ways_counted(chart, frame):
    """The number of WAYS of a FRAME that LEAD ON."""
    free, told, hints = frame
    if not do_told_fit(told, hints) or not chart.leads_everywhere():
        return 0
    untold = [t for t, spot in enumerate(told) if spot is None]
    hinted = [t for t in untold if hints[t] is not None]
    states = {(cells_of(chart, free, [hints[t] for t in hinted]), told_bits(chart, told)): 1}
    for t in hinted:
        states = hint_laid(chart, states, t)
    plain = [t for t in untold if hints[t] is None]
    others = [t for t in plain if t not in chart.asked]
    many = 0
    for (cells, lying), ways in states.items():
        gathered = chart.ways_of_all(cells, lying)
        if gathered > 0:
            # Things that are not ASKED are laid last, into whatever chests are left.
            left = sum([chests for _, chests in cells]) - (len(plain) - len(others))
            many += ways * gathered * perm(left, len(others))
    return many


def count_ways(book, frame):
    """The number of WAYS of a FRAME that LEAD ON."""
    return ways_counted(Chart(book), frame)
