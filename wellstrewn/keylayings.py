"""The good KEY LAYINGS of a DUNGEON, numbered."""

from itertools import combinations
from math import comb

from wellstrewn.errors import NoNumber, NotGood, TooMany
from wellstrewn.keytables import chests_in, count_with_big, counts_by_big, is_key_laying, with_big, with_word
from wellstrewn.places import is_barred


def nth_small(dungeon, sight, big, n):
    """The LOT of the small keys of the KEY LAYING with the index n, of those that have the big key in a chest."""
    told = sight
    left = n
    for k, word in enumerate(sight):
        if word == "any":
            # Those with a key here are less than the others, what is ahead being the same.
            with_key = with_word(told, k, "key")
            many = count_with_big(dungeon, with_key, big)
            told = with_key if left < many else with_word(told, k, "other")
            left = left if left < many else left - many
    return tuple([k for k, word in enumerate(told) if word == "key"])


def nth_key_laying(dungeon, sight, n):
    """The good KEY LAYING that a SIGHT lets with the index n."""
    counts = counts_by_big(dungeon, sight)
    left = n
    for big, many in counts.items():
        if left < many:
            return (big, nth_small(dungeon, with_big(sight, big), big, left))
        left -= many
    raise NoNumber(sum(counts.values()))


def smalls_below(dungeon, sight, laying):
    """How many of the good KEY LAYINGS that a SIGHT lets, the big key lying where it does, have less small keys."""
    big, small = laying
    told = sight
    below = 0
    for k, word in enumerate(sight):
        with_key = with_word(told, k, "key")
        if k in small:
            if word not in ("any", "key"):
                return below
            told = with_key
        elif word in ("any", "key"):
            # All LOTS of small keys are equally long: so those with a key here are less, what is ahead being the same.
            below += count_with_big(dungeon, with_key, big)
            if word == "key":
                return below
            told = with_word(told, k, "other")
    return below


def key_layings_below(dungeon, sight, laying):
    """How many of the good KEY LAYINGS that a SIGHT lets are less than any KEY LAYING."""
    big = laying[0]
    counts = counts_by_big(dungeon, sight)
    below = sum([many for other, many in counts.items() if big is not None and other < big])
    if big in counts:
        below += smalls_below(dungeon, with_big(sight, big), laying)
    return below


def key_laying_number(dungeon, sight, laying):
    """The index of a KEY LAYING among the good ones that a SIGHT lets."""
    if not is_key_laying(dungeon, sight, laying):
        raise NotGood()
    return key_layings_below(dungeon, sight, laying)


def many_layings(dungeon):
    """How many KEY LAYINGS a DUNGEON has, good or not."""
    chests = len(chests_in(dungeon))
    if not is_barred(dungeon):
        return comb(chests, dungeon[1])
    return chests * comb(chests - 1, dungeon[1]) if chests > 0 else 0


def layings_with(big, chests, keys):
    """The list of the KEY LAYINGS with the big key in one of so many chests, or in none, in their order."""
    others = [k for k in range(chests) if k != big]
    return [(big, small) for small in combinations(others, keys)]


def all_key_layings(dungeon, sight, most):
    """The list of the good KEY LAYINGS that a SIGHT lets, by going through all KEY LAYINGS, at most so many."""
    if many_layings(dungeon) > most:
        raise TooMany(most)
    chests = len(chests_in(dungeon))
    bigs = list(range(chests)) if is_barred(dungeon) else [None]
    layings = [laying for big in bigs for laying in layings_with(big, chests, dungeon[1])]
    return [laying for laying in layings if is_key_laying(dungeon, sight, laying)]
