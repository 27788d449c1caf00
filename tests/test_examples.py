"""The examples of the document, word for word."""

import doctest
import unittest

PLACES = r"""
>>> from wellstrewn.forms import is_book, is_content, is_deed, is_dungeon, is_fraction, is_name, is_shuffle, is_state, reduced
>>> from wellstrewn.places import all_places_at, asked_things, content_at, dungeon_at, dungeon_spots, halls_of, laid_at
>>> from wellstrewn.places import places_at, places_of, room_at, shuffle_of, spots_of, telling_of
>>> dungeon = (((None, None, 1), (0, "lock", 2)), 1)
>>> world = ("north", (("camp", 1, None), ("keep", 1, dungeon)), ((0, 1, (0,)),))
>>> book = ((world,), (("hook", 0), ("coin", 0)))
>>> [is_book(book), is_book(book[:1]), is_book(((world,), (("hook", 1),))), is_book(((world,), ())), is_dungeon(dungeon)]
[True, False, False, False, True]
>>> [is_dungeon((((None, None, 1), (1, "lock", 2)), 1)), is_dungeon((dungeon[0], True)), is_dungeon(((), 0)), is_dungeon((dungeon[0], 9))]
[False, False, False, True]
>>> [is_name("cave2"), is_name("2cave"), is_name(""), is_name("Cave"), is_fraction((3, 4)), is_fraction((2, 4)), reduced(6, 8), reduced(0, 5)]
[True, False, False, False, True, False, (3, 4), (0, 1)]
>>> [spots_of(book), halls_of(book), dungeon_spots(book), asked_things(book)]
[((0, 0), (0, 1)), ((0, 1, 0), (0, 1, 1)), ((0, 1),), (0,)]
>>> places_of(book)
((0, 0, -1, 0), (0, 1, -1, 0), (0, 1, 0, 0), (0, 1, 1, 0), (0, 1, 1, 1))
>>> [places_at(book, (0, 0)), len(places_at(book, (0, 1))), all_places_at(book, (0, 1))[0], dungeon_at(book, (0, 0)), room_at(book, (0, 1, 1))]
[(), 3, (0, 1, -1, 0), None, (0, 'lock', 2)]
>>> shuffle = (("thing", 0), ("straw",), ("key",), ("straw",), ("thing", 1))
>>> [is_shuffle(book, shuffle), is_shuffle(book, shuffle[:4]), is_shuffle(book, (("key",), ("straw",), ("thing", 0), ("straw",), ("thing", 1)))]
[True, False, False]
>>> [is_content(book, ("thing", 1)), is_content(book, ("thing", 2)), is_content(book, ("straw", 0)), content_at(book, shuffle, (0, 1, 1, 1))]
[True, False, False, ('thing', 1)]
>>> [laid_at(book, shuffle, (0, 1)), telling_of(book, shuffle)]
[(None, (1, 0)), ((((), ((0, 1, 0, 0),)),), ((0, 0, -1, 0), (0, 1, 1, 1)))]
>>> shuffle_of(book, telling_of(book, shuffle)) == shuffle
True
>>> [is_deed(book, ("open", (0, 1, 1, 1))), is_deed(book, ("open", (0, 1, 1, 2))), is_deed(book, ("unlock", (0, 1, 0))), is_deed(book, ("leave", 1))]
[True, False, True, False]
>>> [is_state(book, (((0, 1, 1, 0),), ((0, 1, 1),), ())), is_state(book, ((), ((0, 1, 0),), ())), is_state(book, ((), (), (0, 0)))]
[True, False, False]
"""

TEXTS = r"""
>>> from wellstrewn.errors import NoText
>>> from wellstrewn.reader import read_book, read_deed, read_shuffle
>>> from wellstrewn.shower import show_book, show_deed, show_shuffle
>>> dungeon = (((None, None, 1), (0, "lock", 2)), 1)
>>> north = ("north", (("camp", 1, None), ("keep", 0, dungeon)), ((0, 1, (0,)), (1, 0, ())))
>>> book = ((north, ("south", (("yard", 1, None),), ())), (("hook", 0), ("coin", 1)))
>>> lines = show_book(book).split("\n")
>>> lines[:6]
['world north', 'region camp 1', 'region keep 0', 'dungeon 1 1', 'room lock 0 2', 'world south']
>>> lines[6:]
['region yard 1', 'thing hook north', 'thing coin south', 'arrow north camp keep hook', 'arrow north keep camp']
>>> read_book("\n".join(lines)) == book
True
>>> mixed = "world north\nthing hook north\n\n region  camp 1\nregion keep 0\narrow north camp keep hook\ndungeon 1 1\nroom lock 0 2\n"
>>> mixed = mixed + "arrow north keep camp\nworld south\nregion yard 1 \nthing coin south"
>>> read_book(mixed) == book
True
>>> for text in ("world north\nregion camp 1\nroom lock 0 2", "world north\nregion camp 1\n\nregion camp 2", "world north\n", "world a\nregion b 01"):
...     try:
...         read_book(text)
...     except NoText as error:
...         print(error.line)
2
3
2
1
>>> shuffle = (("thing", 1), ("key",), ("straw",), ("straw",), ("thing", 0))
>>> show_shuffle(book, shuffle).split("\n")
['thing coin north camp 0', 'key north keep 0 0', 'thing hook south yard 0']
>>> read_shuffle(book, "thing hook south yard 0\nkey north keep 0 0\n\nthing coin north camp 0") == shuffle
True
>>> for text in ("key north keep 0 0\nkey north keep 1 1", "key north camp 0", "thing hook north camp 0\nthing coin north camp 0", ""):
...     try:
...         read_shuffle(book, text)
...     except NoText as error:
...         print(error.line)
1
0
1
1
>>> [show_deed(book, ("open", (0, 1, 1, 0))), show_deed(book, ("unlock", (0, 1, 1))), show_deed(book, ("leave", 1))]
['open north keep 1 0', 'unlock north keep 1', 'leave south']
>>> [read_deed(book, " open north camp  0"), read_deed(book, "unlock north keep 0")]
[('open', (0, 0, -1, 0)), ('unlock', (0, 1, 0))]
"""

GATHERING = r"""
>>> from wellstrewn.gathering import gathered, gathered_from, is_needed, is_round_row, leads_on, needed_things, round_of_spot, rounds_of
>>> from wellstrewn.regions import barred_arrows, free_many, places_in, reached_spots, spots_off
>>> keep = (((None, None, 1), (0, "lock", 1)), 1)
>>> regions = (("home", 2, None), ("keep", 0, keep), ("peak", 1, None))
>>> world = ("w", regions, ((0, 1, (0,)), (1, 2, (0, 2)), (2, 0, ())))
>>> book = ((world,), (("hook", 0), ("coin", 0), ("rope", 0)))
>>> [reached_spots(book, ()), reached_spots(book, (0,)), spots_off(book, (0, 1)), barred_arrows(book, (0,)), barred_arrows(book, ())]
[((0, 0),), ((0, 0), (0, 1)), ((0, 2),), ((0, 1, (2,)),), ((0, 0, (0,)),)]
>>> [places_in(book, ((0, 1), (0, 2))), free_many(book, ((0, 1),)), free_many(book, ((0, 0), (0, 1)))]
[((0, 1, 0, 0), (0, 1, 1, 0), (0, 2, -1, 0)), 1, 3]
>>> shuffle = (("thing", 0), ("straw",), ("key",), ("thing", 2), ("thing", 1))
>>> [rounds_of(book, shuffle), gathered(book, shuffle), leads_on(book, shuffle), round_of_spot(book, shuffle, (0, 2))]
[((0,), (2,), (1,)), (0, 1, 2), True, 2]
>>> [needed_things(book, shuffle), is_needed(book, shuffle, 1), is_round_row(book, shuffle, [(0,), (2,), (1,)])]
[(0, 2), False, False]
>>> other = (("thing", 1), ("straw",), ("key",), ("thing", 2), ("thing", 0))
>>> [rounds_of(book, other), leads_on(book, other), round_of_spot(book, other, (0, 1)), gathered_from(book, other, (0,))]
[((1,),), False, None, (0, 1, 2)]
"""

NETS = r"""
>>> from wellstrewn.nets import are_keys_good, is_net_table, least_net, locks_to_nought, net_table, worst_part
>>> from wellstrewn.parts import all_parts, branch_of, closed_part, is_part, net_of, opened_part, rim_of, way_has_bar, way_to
>>> dungeon = (((None, None, 2), (0, "lock", 1), (0, "lock", 1), (2, "bar", 1)), 2)
>>> [branch_of(dungeon, 2), way_to(dungeon, 3), way_has_bar(dungeon, 3), way_has_bar(dungeon, 2), way_has_bar(dungeon, None), rim_of(dungeon, (0, 2))]
[(2, 3), (0, 2, 3), True, False, False, (1, 3)]
>>> good, bad = (0, (2, 0, 0, 0)), (0, (1, 1, 0, 0))
>>> all_parts(dungeon, good)
[(0,), (0, 1), (0, 1, 2, 3), (0, 2, 3)]
>>> [[net_of(dungeon, laid, part) for part in all_parts(dungeon, laid)] for laid in (good, bad)]
[[2, 1, 0, 1], [1, 1, 0, 0]]
>>> [is_part(dungeon, good, (0, 2)), is_part(dungeon, (1, (2, 0, 0, 0)), (0, 2)), is_part(dungeon, good, [0]), closed_part(dungeon, (1, (2, 0, 0, 0)), (3,))]
[False, True, False, (0, 1, 2, 3)]
>>> [opened_part(dungeon, good, ()), opened_part(dungeon, good, (2,)), opened_part(dungeon, (2, (2, 0, 0, 0)), (2,)), opened_part(dungeon, (1, (2, 0, 0, 0)), (2,))]
[(0,), (0, 2, 3), (0, 2, 3), (0, 2)]
>>> net_table(dungeon, good)
((None, None, 0, 1), (-1, None, -1, None), (-1, -1, -1, None), (0, None, 0, None))
>>> net_table(dungeon, (2, (2, 0, 0, 0)))
((1, 1, 0, 1), (-1, None, -1, None), (None, None, -1, None), (0, None, 0, None))
>>> [least_net(dungeon, good), least_net(dungeon, bad), worst_part(dungeon, bad), are_keys_good(dungeon, good), are_keys_good(dungeon, bad)]
[1, 0, (0, 2, 3), True, False]
>>> [locks_to_nought(dungeon, good), locks_to_nought(dungeon, bad), is_net_table(dungeon, bad, net_table(dungeon, good))]
[None, (2,), False]
>>> plain = (((None, None, 2), (0, "lock", 1), (1, "lock", 1), (0, "open", 2)), 2)
>>> [all_parts(plain, (None, (1, 0, 0, 1))), net_table(plain, (None, (1, 0, 0, 1)))[:2], least_net((((None, None, 3),), 1), (None, (1,)))]
[[(0, 1, 2, 3), (0, 1, 3), (0, 3)], ((0, 1, None, None), (-2, -1, None, None)), None]
"""

PLAYS = r"""
>>> from wellstrewn.deadends import finish, foolish, hasty, left_open, shortest_dead_end
>>> from wellstrewn.errors import NoDeed
>>> from wellstrewn.plays import deeds_of, done, halls_in, held_in, is_dead_end, is_play, is_whole, keys_in_hand, may_do, run, spots_in, start_state
>>> keep = (((None, None, 1), (0, "lock", 1)), 1)
>>> world = ("w", (("home", 2, None), ("keep", 0, keep)), ((0, 1, (0,)),))
>>> book = ((world,), (("hook", 0), ("coin", 0)))
>>> good = (("thing", 0), ("straw",), ("key",), ("thing", 1))
>>> [deeds_of(book, good, start_state()), is_whole(book, good, start_state()), keys_in_hand(book, good, start_state())]
[(('open', (0, 0, -1, 0)), ('open', (0, 0, -1, 1))), False, {(0, 1): 0}]
>>> state = run(book, good, [("open", (0, 0, -1, 0)), ("open", (0, 1, 0, 0))])
>>> [held_in(book, good, state), spots_in(book, good, state), halls_in(book, good, state), keys_in_hand(book, good, state)]
[(0,), ((0, 0), (0, 1)), ((0, 1, 0),), {(0, 1): 1}]
>>> [may_do(book, good, state, ("unlock", (0, 1, 1))), may_do(book, good, state, ("open", (0, 1, 1, 0))), may_do(book, good, state, ("leave", 0))]
[True, False, True]
>>> [is_whole(book, good, done(book, good, state, ("unlock", (0, 1, 1)))), finish(book, good, state)]
[True, (('open', (0, 0, -1, 1)), ('unlock', (0, 1, 1)), ('open', (0, 1, 1, 0)))]
>>> [hasty(book, good, state), foolish(book, good, state, (5, 0, 7, 7)), shortest_dead_end(book, good)]
[(('unlock', (0, 1, 1)), ('open', (0, 1, 1, 0)), ('open', (0, 0, -1, 1))), (('unlock', (0, 1, 1)), ('open', (0, 0, -1, 1)), ('open', (0, 1, 1, 0))), None]
>>> bad = (("thing", 0), ("thing", 1), ("straw",), ("key",))
>>> play = shortest_dead_end(book, bad)
>>> [len(play), is_dead_end(book, bad, run(book, bad, play)), left_open(book, bad, run(book, bad, play)), is_play(book, good, play[:2])]
[3, True, ((), ((0, 1, 1),)), True]
>>> try:
...     run(book, bad, [("open", (0, 0, -1, 1)), ("open", (0, 1, 0, 0))])
... except NoDeed as error:
...     print(error.index)
1
"""

PAPERS = r"""
>>> from wellstrewn.goodness import fault_of, is_good
>>> from wellstrewn.papers import dead_play, good_paper, is_dead_play, is_good_paper
>>> cave = (((None, None, 2), (0, "lock", 1), (0, "lock", 1)), 2)
>>> book = ((("ann", (("shore", 1, None), ("cliff", 1, cave)), ((0, 1, (0,)),)),), (("hook", 0),))
>>> hook, key, straw = ("thing", 0), ("key",), ("straw",)
>>> good = (hook, straw, key, key, straw, straw)
>>> [is_good(book, good), fault_of(book, good), dead_play(book, good)]
[True, None, None]
>>> paper = good_paper(book, good)
>>> [paper[0], len(paper[1]), is_good_paper(book, good, paper), is_good_paper(book, good, ((), paper[1])), is_good_paper(book, good, (((0,), ()), paper[1]))]
[((0,),), 1, True, False, False]
>>> bad = (hook, straw, key, straw, key, straw)
>>> [is_good(book, bad), fault_of(book, bad)]
[False, ('net', (0, 1), (0, 2))]
>>> play = (("open", (0, 0, -1, 0)), ("open", (0, 1, -1, 0)), ("open", (0, 1, 0, 0)), ("open", (0, 1, 0, 1)), ("unlock", (0, 1, 2)), ("open", (0, 1, 2, 0)))
>>> [is_dead_play(book, bad, play), is_dead_play(book, bad, play[:-1]), is_dead_play(book, bad, dead_play(book, bad)), is_good_paper(book, bad, paper)]
[True, False, True, False]
>>> shut = (straw, hook, key, key, straw, straw)
>>> [fault_of(book, shut), is_dead_play(book, shut, (("open", (0, 0, -1, 0)),)), is_dead_play(book, shut, ())]
[('regions', ((0, 1),)), True, False]
"""

KEYS = r"""
>>> from wellstrewn.errors import NoNumber
>>> from wellstrewn.keylayings import all_key_layings, key_laying_number, key_layings_below, nth_key_laying
>>> from wellstrewn.keytables import chests_in, count_key_layings, is_key_laying, key_chances, key_counts, laid_by
>>> dungeon = (((None, None, 3), (0, "lock", 2), (0, "bar", 1)), 1)
>>> any_of = ("any",) * 6
>>> [chests_in(dungeon)[2:5], laid_by(dungeon, (4, (0,))), is_key_laying(dungeon, any_of, (4, (0,))), is_key_laying(dungeon, any_of, (0, (4,)))]
[((0, 2), (1, 0), (1, 1)), (1, (1, 0, 0)), True, False]
>>> [count_key_layings(dungeon, any_of), key_counts(dungeon, any_of)]
[15, {0: 3, 1: 3, 2: 3, 3: 3, 4: 3, 5: 0}]
>>> [nth_key_laying(dungeon, any_of, n) for n in (0, 2, 4, 14)]
[(0, (1,)), (0, (5,)), (1, (2,)), (4, (2,))]
>>> [key_laying_number(dungeon, any_of, (3, (1,))), key_layings_below(dungeon, any_of, (3, (5,))), key_layings_below(dungeon, any_of, (5, (0,)))]
[10, 12, 15]
>>> seen = ("any", "other", "any", "any", "big", "any")
>>> [count_key_layings(dungeon, seen), all_key_layings(dungeon, seen, 100), key_counts(dungeon, seen), key_chances(dungeon, seen)]
[2, [(4, (0,)), (4, (2,))], {4: 2}, ((1, 0), (0, 0), (1, 0), (0, 0), (0, 2), (0, 0))]
>>> all_key_layings(dungeon, ("any", "any", "key", "any", "any", "any"), 100)
[(0, (2,)), (1, (2,)), (3, (2,)), (4, (2,))]
>>> plain = (((None, None, 2), (0, "lock", 1), (1, "lock", 1), (0, "open", 2)), 2)
>>> [count_key_layings(plain, any_of), key_counts(plain, any_of), nth_key_laying(plain, ("any", "other", "any", "any", "key", "any"), 1)]
[10, {-1: 10}, (None, (2, 4))]
>>> try:
...     nth_key_laying(plain, ("big",) + any_of[1:], 0)
... except NoNumber as error:
...     print(error.many)
0
"""

THINGS = r"""
>>> from wellstrewn.thinglayings import count_layings, field_frame, is_laying, laying_number, nth_laying
>>> from wellstrewn.thingtables import count_ways, reach_table, ways_gathering
>>> book = ((("ann", (("shore", 2, None), ("cliff", 1, None)), ((0, 1, (0,)),)),), (("hook", 0), ("lamp", 0)))
>>> [reach_table(book), count_ways(book, ((2, 1), (None, None), (None, None)))]
[{(): ((0, 0),), (0,): ((0, 0), (0, 1))}, 4]
>>> wide = ((("ann", book[0][0][1], ((0, 1, (0,)), (1, 0, (1,)))),), book[1])
>>> ways_gathering(wide, ((2, 1), (None, None), (None, None)))
{(): 1, (0,): 2, (0, 1): 4, (1,): 2}
>>> [count_ways(book, ((1, 1), ((0, 0), None), (None, None))), count_ways(book, ((2, 0), ((0, 1), None), (None, None)))]
[2, 0]
>>> [count_ways(book, ((2, 1), (None, None), (None, ((0, 1),)))), count_ways(book, ((2, 1), (None, None), (((0, 1),), None)))]
[2, 0]
>>> field = (((0, 0, -1, 0), (0, 0, -1, 1), (0, 1, -1, 0)), (None, None), (None, None))
>>> [count_layings(book, field), nth_laying(book, field, 1), laying_number(book, field, ((0, 0, -1, 1), (0, 0, -1, 0)))]
[4, ((0, 0, -1, 0), (0, 1, -1, 0)), 2]
>>> [field_frame(book, field)[0], is_laying(book, field, ((0, 1, -1, 0), (0, 0, -1, 0))), is_laying(book, field, nth_laying(book, field, 3))]
[(2, 1), False, True]
"""

NUMBERS = r"""
>>> from wellstrewn.drawing import drawn, drawn_shuffle, rows_of_coins
>>> from wellstrewn.numbering import good_shuffles, next_good, nth_shuffle, number_of
>>> cave = (((None, None, 3), (0, "lock", 1), (0, "lock", 1)), 2)
>>> book = ((("ann", (("shore", 2, None), ("cliff", 1, cave)), ((0, 1, (0,)),)),), (("hook", 0), ("lamp", 0)))
>>> hook, lamp, key, straw = ("thing", 0), ("thing", 1), ("key",), ("straw",)
>>> [good_shuffles(book), nth_shuffle(book, 0) == (hook, lamp, straw, key, key, straw, straw, straw)]
[30, True]
>>> [number_of(book, (lamp, hook, straw, straw, key, key, straw, straw)), nth_shuffle(book, 25) == (lamp, hook, straw, straw, key, key, straw, straw)]
[25, True]
>>> [next_good(book, ((((), ((0, 1, 0, 0), (0, 1, 1, 0))),), ((0, 0, -1, 0), (0, 0, -1, 1)))), nth_shuffle(book, 29)[:3]]
[20, (('straw',), ('thing', 0), ('straw',))]
>>> [drawn(5, (True, False, True, False, True, True)), drawn(5, (True, False, True)), drawn(1, ()), rows_of_coins(3, 4)]
[(3, 6), None, (0, 0), (5, 5, 5)]
>>> drawn_shuffle(book, (True, True, False, False, True, False)) == (nth_shuffle(book, 25), 5)
True
"""

KNOWN = r"""
>>> from wellstrewn.knowledge import field_from, fits, frame_from, is_knowledge, joined, seen_in, sights_from, with_hint, with_seen
>>> from wellstrewn.trackers import best_places, can_lie, first_fitting, fitting_at, how_many, parted, share_of, shares_at, shares_for, surely
>>> keep = (((None, None, 1), (0, "lock", 1)), 1)
>>> world = ("w", (("home", 2, None), ("keep", 0, keep)), ((0, 1, (0,)),))
>>> book = ((world,), (("hook", 0), ("coin", 0)))
>>> nothing = ((), ())
>>> [how_many(book, nothing), surely(book, nothing), share_of(book, nothing, (0, 0, -1, 0), ("thing", 0))]
[4, (((0, 1, 0, 0), ('key',)),), (1, 2)]
>>> [shares_at(book, nothing, (0, 1, 1, 0)), shares_for(book, nothing, 1)]
[{('straw',): (1, 2), ('thing', 1): (1, 2)}, {(0, 0, -1, 0): (1, 4), (0, 0, -1, 1): (1, 4), (0, 1, 1, 0): (1, 2)}]
>>> [first_fitting(book, nothing), fitting_at(book, nothing, 3), best_places(book, nothing, 1)]
[(('thing', 0), ('thing', 1), ('key',), ('straw',)), (('straw',), ('thing', 0), ('key',), ('thing', 1)), ((0, 1, 1, 0),)]
>>> seen = with_seen(nothing, (0, 0, -1, 0), ("straw",))
>>> [how_many(book, seen), surely(book, seen), can_lie(book, seen, 1), is_knowledge(book, seen)]
[1, (((0, 0, -1, 1), ('thing', 0)), ((0, 1, 0, 0), ('key',)), ((0, 1, 1, 0), ('thing', 1))), ((0, 1, 1, 0),), True]
>>> hinted = with_hint(nothing, 1, ((0, 0),))
>>> [how_many(book, hinted), share_of(book, hinted, (0, 1, 1, 0), ("straw",)), joined(hinted, with_hint(nothing, 1, ((0, 1),)))]
[2, (1, 1), None]
>>> [parted(book, nothing, (0, 0, -1, 0), ("thing", 1)), parted(book, nothing, (0, 1, 0, 0), ("key",))[1], how_many(book, with_seen(nothing, (0, 0, -1, 0), ("key",)))]
[((('thing', 1), ('thing', 0), ('key',), ('straw',)), (('thing', 0), ('thing', 1), ('key',), ('straw',))), None, 0]
>>> [frame_from(book, seen), sights_from(book, seen), sights_from(book, with_seen(nothing, (0, 1, 1, 0), ("big",)))]
[((1, 1), (None, None), (None, None)), (('any', 'any'),), None]
>>> field_from(book, first_fitting(book, nothing), nothing)
(((0, 0, -1, 0), (0, 0, -1, 1), (0, 1, 1, 0)), (None, None), (None, None))
>>> [fits(book, first_fitting(book, nothing), hinted), seen_in(book, first_fitting(book, nothing), (((0, 0, -1, 0),), (), ()))]
[True, ((((0, 0, -1, 0), ('thing', 0)),), ())]
"""

RACES = r"""
>>> from wellstrewn.races import barred_in, is_log, joined_log, judged, state_at, states_along
>>> from wellstrewn.results import finish_ticks, ranks, splits, waits
>>> north = ("north", (("camp", 1, None), ("cave", 1, None)), ((0, 1, (0,)),))
>>> book = ((north, ("south", (("yard", 1, None),), ())), (("hook", 0), ("lamp", 0)))
>>> shuffle = (("straw",), ("thing", 1), ("thing", 0))
>>> camp, cave, yard = [("open", place) for place in ((0, 0, -1, 0), (0, 1, -1, 0), (1, 0, -1, 0))]
>>> [is_log(book, ((1, camp), (1, yard))), is_log(book, ((2, camp), (1, yard))), is_log(book, ((True, camp),)), is_log(book, ())]
[True, False, False, True]
>>> [judged(book, shuffle, ((1, camp), (4, cave), (4, yard))), judged(book, shuffle, ((1, camp), (2, camp))), judged(book, shuffle, ())]
[1, 1, None]
>>> log = joined_log(book, shuffle, (((1, camp), (4, cave)), ((4, yard),)))
>>> log == ((1, camp), (4, yard), (4, cave))
True
>>> late = (((1, camp), (4, cave)), ((5, yard),))
>>> [joined_log(book, shuffle, late), barred_in(book, shuffle, late), barred_in(book, shuffle, ((), ()))]
[None, ((0, 1),), ()]
>>> [state_at(book, shuffle, log, 3), state_at(book, shuffle, log, 0), len(states_along(book, shuffle, log))]
[(((0, 0, -1, 0),), (), ()), ((), (), ()), 4]
>>> [finish_ticks(book, shuffle, log), ranks(book, shuffle, log), splits(book, shuffle, log), waits(book, shuffle, log)]
[(4, 0), (1, 0), ((4, 1), (4, 0)), (3, 0)]
>>> short = ((3, ("leave", 1)), (7, cave))
>>> [finish_ticks(book, shuffle, short), splits(book, shuffle, short), waits(book, shuffle, short), ranks(book, shuffle, short[:0])]
[(3, 0), ((3, 1), (7, 0)), (0, 0), (None, 0)]
"""

HOUSES = r"""
>>> from wellstrewn.desk import Desk
>>> from wellstrewn.errors import NoDeed
>>> from wellstrewn.house import House
>>> from wellstrewn.journal import journal_of, opened, sum_behind, with_record
>>> [sum_behind(0, "a"), sum_behind(66, "b"), journal_of(["a", "b"]), opened("0 66 a\n1 6469 b\n2"), opened("0 66 a\n1 6468 b\n"), opened("0 66 a")]
[66, 6469, '0 66 a\n1 6469 b\n', ('a', 'b'), ('a',), ()]
>>> with_record("0 66 a\n1 6469", "b")
'0 66 a\n1 6469 b\n'
>>> tiny = "world ann\nregion shore 1\nregion cliff 1\nthing hook ann\narrow ann shore cliff hook"
>>> house = House("")
>>> [house.put_book("tiny", tiny), house.put_race("r", "tiny", 0), house.left("r"), house.shuffle("r"), house.many_left("r")]
[None, None, (('open', (0, 0, -1, 0)),), (('thing', 0), ('straw',)), 1]
>>> try:
...     house.do("r", 3, "open ann cliff 0")
... except NoDeed as error:
...     print(error.index)
0
>>> [house.do("r", 3, "open ann shore 0"), house.races(), house.left("r"), house.known("r"), house.chance("r", (0, 1, -1, 0), ("straw",))]
[None, {'r': ('tiny', 0, ((3, ('open', (0, 0, -1, 0))),))}, (('open', (0, 1, -1, 0)),), ((((0, 0, -1, 0), ('thing', 0)),), ()), (1, 1)]
>>> opened(house.text())[1:]
('race r tiny 0', 'deed r 3 open ann shore 0')
>>> [House(house.text()) == house, House(house.text()[:-1]).races(), House(house.text()[:-1]) == house]
[True, {'r': ('tiny', 0, ())}, False]
>>> desk = Desk(house.text())
>>> [desk.execute("many tiny"), desk.execute("seen r"), desk.execute("left r"), desk.execute("chance r straw at ann cliff 0"), desk.execute("state r")]
[['1'], ['thing hook at ann shore 0'], ['open ann cliff 0'], ['1/1'], ['whole']]
>>> [desk.execute("do r 5 open  ann cliff 0"), desk.execute("left r"), desk.execute("cut 0"), desk.execute("books"), desk.house() == House("")]
[['done'], [], ['done'], [], True]
"""


class Examples(unittest.TestCase):

    def check(self, text):
        example = doctest.DocTestParser().get_doctest(text, {}, "example", None, 0)
        told = []
        found = doctest.DocTestRunner(verbose=False).run(example, out=told.append)
        self.assertGreater(found.attempted, 9)
        self.assertEqual((found.failed, "".join(told)), (0, ""))

    def test_places_and_forms(self):
        self.check(PLACES)

    def test_shower_and_reader(self):
        self.check(TEXTS)

    def test_regions_and_gathering(self):
        self.check(GATHERING)

    def test_parts_and_nets(self):
        self.check(NETS)

    def test_plays_and_dead_ends(self):
        self.check(PLAYS)

    def test_goodness_and_papers(self):
        self.check(PAPERS)

    def test_keys(self):
        self.check(KEYS)

    def test_things(self):
        self.check(THINGS)

    def test_numbers_and_drawing(self):
        self.check(NUMBERS)

    def test_knowledge_and_trackers(self):
        self.check(KNOWN)

    def test_races_and_results(self):
        self.check(RACES)

    def test_journal_house_and_desk(self):
        self.check(HOUSES)


if __name__ == "__main__":
    unittest.main()
