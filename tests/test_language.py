"""The package keeps to its small subset of Python, as far as a look at its rows can tell; and [3], the interface."""

import ast
import builtins
import inspect
import os
import unittest

from wellstrewn import deadends, desk, drawing, errors, forms, gathering, goodness, house, journal, keylayings, keytables
from wellstrewn import knowledge, nets, numbering, papers, parts, places, plays, races, reader, regions, results, shower
from wellstrewn import thinglayings, thingtables, trackers

FOLDER = os.path.join(os.path.dirname(os.path.dirname(os.path.abspath(__file__))), "wellstrewn")
# All modules that the document names, in its order, and fitting, which it does not: each may use those above it.
ORDER = """errors places forms shower reader regions gathering parts nets plays deadends goodness papers keytables
keylayings thingtables thinglayings fitting numbering drawing knowledge trackers races results journal house
desk""".split()
BUILTINS = """len range enumerate zip min max sum abs sorted reversed int str bool bytes list tuple dict set isinstance
ord repr any all divmod pow ValueError""".split()
METHODS = """append clear copy count endswith extend find get index insert isalnum isalpha isdigit islower isspace
isupper items join keys ljust lower lstrip partition pop remove replace reverse rfind rjust rpartition rsplit rstrip
setdefault split splitlines startswith strip update upper values zfill bit_length add discard""".split()
BARRED_WORDS = """type typing enum Enum Flag Generic Protocol ABC namedtuple dataclass overload global async await float
register mro elements open input law exec eval compile globals locals vars dir id help exit quit""".split()
LIBRARY = {"math": ("gcd", "comb", "perm"), "itertools": ("combinations",)}
# A console keeps its last value as `_`.
ALL_BUILTINS = [name for name in dir(builtins) if name != "_"]
BARRED_NODES = (ast.AsyncFunctionDef, ast.AsyncFor, ast.AsyncWith, ast.Await, ast.Global, ast.Div, ast.GeneratorExp,
                ast.MatMult)

INTERFACE = {
    errors: """StrewError NoCommand NoDeed(index) NoFit NoName(name) NoNumber(many) NoText(line) NotGood TooMany(most)
        Twice(name) Wrong(place)""",
    places: """spots_of(book) halls_of(book) places_of(book) dungeon_spots(book) asked_things(book)
        places_at(book,spot) all_places_at(book,spot) region_at(book,spot) dungeon_at(book,spot) room_at(book,hall)
        content_at(book,shuffle,place) laid_at(book,shuffle,spot) telling_of(book,shuffle) shuffle_of(book,telling)""",
    forms: """is_integer(thing) is_name(thing) is_fraction(thing) is_dungeon(thing) is_book(thing)
        is_content(book,thing) is_shuffle(book,thing) is_deed(book,thing) is_state(book,thing) reduced(n,d)""",
    shower: "show_book(book) show_shuffle(book,shuffle) show_deed(book,deed)",
    reader: "read_book(text) read_shuffle(book,text) read_deed(book,text)",
    regions: """first_spots(book) reached_spots(book,held) spots_off(book,held) places_in(book,spots)
        barred_arrows(book,held) free_many(book,spots)""",
    gathering: """rounds_from(book,shuffle,held) rounds_of(book,shuffle) gathered_from(book,shuffle,held)
        gathered(book,shuffle) needed_things(book,shuffle) leads_on(book,shuffle) is_needed(book,shuffle,thing)
        is_round_row(book,shuffle,thing) round_of_spot(book,shuffle,spot)""",
    parts: """branch_of(dungeon,v) way_to(dungeon,v) rim_of(dungeon,rooms) closed_part(dungeon,laid,rooms)
        opened_part(dungeon,laid,rooms) all_parts(dungeon,laid) net_of(dungeon,laid,part) way_has_bar(dungeon,big)
        is_part(dungeon,laid,thing)""",
    nets: """net_table(dungeon,laid) is_net_table(dungeon,laid,thing) are_keys_good(dungeon,laid)
        least_net(dungeon,laid) worst_part(dungeon,laid) locks_to_nought(dungeon,laid)""",
    plays: """start_state() held_in(book,shuffle,state) big_keys(book,shuffle,state) spots_in(book,shuffle,state)
        halls_in(book,shuffle,state) reached_places(book,shuffle,state) keys_in_hand(book,shuffle,state)
        is_whole(book,shuffle,state) is_dead_end(book,shuffle,state) deeds_of(book,shuffle,state)
        may_do(book,shuffle,state,deed) is_play(book,shuffle,thing) done(book,shuffle,state,deed)
        run(book,shuffle,play) states_of(book,shuffle,play)""",
    deadends: """shortest_dead_end(book,shuffle) finish(book,shuffle,state) foolish(book,shuffle,state,choices)
        hasty(book,shuffle,state) left_open(book,shuffle,state)""",
    goodness: "fault_of(book,shuffle) is_good(book,shuffle)",
    papers: """is_good_paper(book,shuffle,thing) is_dead_play(book,shuffle,thing) good_paper(book,shuffle)
        dead_play(book,shuffle)""",
    keytables: """chests_in(dungeon) laid_by(dungeon,laying) key_chances(dungeon,sight)
        is_key_laying(dungeon,sight,thing) count_key_layings(dungeon,sight) key_counts(dungeon,sight)""",
    keylayings: """nth_key_laying(dungeon,sight,n) key_layings_below(dungeon,sight,laying)
        key_laying_number(dungeon,sight,laying) all_key_layings(dungeon,sight,most)""",
    thingtables: "reach_table(book) ways_gathering(book,frame) count_ways(book,frame)",
    thinglayings: """field_frame(book,field) nth_laying(book,field,n) is_laying(book,field,thing)
        count_layings(book,field) laying_number(book,field,some)""",
    numbering: "good_shuffles(book) number_of(book,shuffle) next_good(book,telling) nth_shuffle(book,n)",
    drawing: "drawn(many,coins) drawn_shuffle(book,coins) rows_of_coins(many,length)",
    knowledge: """is_knowledge(book,thing) fits(book,shuffle,knowledge) seen_in(book,shuffle,state)
        with_seen(knowledge,place,content) with_hint(knowledge,t,spots) joined(one,other) frame_from(book,knowledge)
        sights_from(book,knowledge) field_from(book,shuffle,knowledge)""",
    trackers: """how_many(book,knowledge) share_of(book,knowledge,place,content) shares_at(book,knowledge,place)
        shares_for(book,knowledge,t) surely(book,knowledge) can_lie(book,knowledge,t) best_places(book,knowledge,t)
        first_fitting(book,knowledge) fitting_at(book,knowledge,index) parted(book,knowledge,place,content)
        is_parting(book,knowledge,place,content,thing)""",
    races: """is_log(book,thing) states_along(book,shuffle,log) state_at(book,shuffle,log,tick)
        judged(book,shuffle,log) joined_log(book,shuffle,logs) barred_in(book,shuffle,logs)""",
    results: """finish_ticks(book,shuffle,log) ranks(book,shuffle,log) splits(book,shuffle,log)
        waits(book,shuffle,log)""",
    journal: "sum_behind(ahead,record) journal_of(records) with_record(text,record) opened(text)",
    house: "House(text)",
    desk: "Desk(text)",
}
METHOD_ROWS = {
    house.House: """put_book(self,name,text) put_race(self,name,book,n) do(self,name,tick,words) text(self) books(self)
        races(self) shuffle(self,name) state(self,name) left(self,name) known(self,name)
        chance(self,name,place,content) many_left(self,name) twin(self) __eq__(self,other)""",
    desk.Desk: "house(self) execute(self,line) twin(self) __eq__(self,other)",
}


def sources():
    names = sorted([name for name in os.listdir(FOLDER) if name != "__pycache__"])
    for name in names:
        with open(os.path.join(FOLDER, name), encoding="utf-8") as source:
            yield name, source.read()


class Language(unittest.TestCase):

    def test_files(self):
        names = [name for name, _ in sources()]
        self.assertEqual([name for name in names if name[:-3] not in ORDER], ["__init__.py"])
        self.assertEqual(dict(sources())["__init__.py"], "")

    def test_sizes_and_signs(self):
        for name, text in sources():
            lines = text.split("\n")
            self.assertLessEqual(len(lines), 399, name)
            self.assertLessEqual(max([len(line) for line in lines]), 120, name)
            self.assertEqual([sign for sign in text if sign != "\n" and not " " <= sign <= "~"], [], name)
            for node in ast.walk(ast.parse(text)):
                if isinstance(node, ast.FunctionDef):
                    self.assertLessEqual(node.end_lineno - node.lineno + 1, 40, (name, node.name))

    def test_imports(self):
        for name, text in sources():
            for node in ast.walk(ast.parse(text)):
                self.assertNotIsInstance(node, ast.Import, name)
                if isinstance(node, ast.ImportFrom) and node.module in LIBRARY:
                    for found in node.names:
                        self.assertIn(found.name, LIBRARY[node.module], name)
                        self.assertIsNone(found.asname, name)
                elif isinstance(node, ast.ImportFrom):
                    package, module = node.module.split(".")
                    self.assertEqual((package, node.level), ("wellstrewn", 0))
                    self.assertLess(ORDER.index(module), ORDER.index(name[:-3]), name)

    def test_module_level(self):
        for name, text in sources():
            body = ast.parse(text).body
            for k, node in enumerate(body):
                plain = isinstance(node, (ast.FunctionDef, ast.ClassDef, ast.ImportFrom, ast.Assign))
                self.assertTrue(plain or k == 0 and isinstance(node, ast.Expr), (name, node.lineno))
            bound = [node.name for node in body if isinstance(node, (ast.FunctionDef, ast.ClassDef))]
            bound += [target.id for node in body if isinstance(node, ast.Assign) for target in node.targets]
            bound += [found.name for node in body if isinstance(node, ast.ImportFrom) for found in node.names]
            self.assertEqual(len(bound), len(set(bound)), name)

    def test_names_and_words(self):
        for name, text in sources():
            for node in ast.walk(ast.parse(text)):
                self.assertNotIsInstance(node, BARRED_NODES, (name, getattr(node, "lineno", 0)))
                if isinstance(node, ast.Name):
                    own = isinstance(node.ctx, ast.Store) or node.id not in ALL_BUILTINS
                    self.assertTrue(node.id not in ALL_BUILTINS if own else node.id in BUILTINS, (name, node.id))
                    self.assertNotIn(node.id, BARRED_WORDS, name)
                if isinstance(node, ast.arg):
                    self.assertNotIn(node.arg, ALL_BUILTINS + BARRED_WORDS, name)
                if isinstance(node, ast.Constant):
                    self.assertNotIsInstance(node.value, (float, complex), name)

    def test_no_name_hides_a_class_or_an_import(self):
        for name, text in sources():
            tree = ast.parse(text)
            taken = [node.name for node in tree.body if isinstance(node, ast.ClassDef)]
            taken += [found.name for node in tree.body if isinstance(node, ast.ImportFrom) for found in node.names]
            for node in ast.walk(tree):
                if isinstance(node, ast.Name) and isinstance(node.ctx, ast.Store):
                    self.assertNotIn(node.id, taken, name)
                if isinstance(node, ast.arg):
                    self.assertNotIn(node.arg, taken, name)

    def test_calls_and_comparisons(self):
        own = [node.name for _, text in sources() for node in ast.walk(ast.parse(text))
               if isinstance(node, ast.FunctionDef)]
        for name, text in sources():
            for node in ast.walk(ast.parse(text)):
                if isinstance(node, ast.Call) and isinstance(node.func, ast.Attribute):
                    self.assertIn(node.func.attr, METHODS + own, (name, node.lineno))
                if isinstance(node, ast.Compare) and isinstance(node.ops[0], (ast.Is, ast.IsNot)):
                    self.assertIn(ast.unparse(node.comparators[0]), ("None", "True", "False"), (name, node.lineno))
                if isinstance(node, (ast.FunctionDef, ast.ClassDef)):
                    self.assertEqual(node.decorator_list, [], (name, node.name))
                    self.assertTrue(ast.get_docstring(node) or node.name == "__init__", (name, node.name))


class Interface(unittest.TestCase):

    def test_names_and_arguments(self):
        for module, rows in INTERFACE.items():
            for row in rows.split():
                name, _, arguments = row.rstrip(")").partition("(")
                found = getattr(module, name)
                self.assertEqual(found.__module__, module.__name__)
                if arguments:
                    self.assertEqual(",".join(inspect.signature(found).parameters), arguments, name)

    def test_methods_stand_in_the_class_itself(self):
        for found, rows in METHOD_ROWS.items():
            for row in rows.split():
                name, _, arguments = row.rstrip(")").partition("(")
                self.assertEqual(",".join(inspect.signature(vars(found)[name]).parameters), arguments, name)

    def test_all_modules_of_the_document(self):
        names = [module.__name__.split(".")[1] for module in INTERFACE]
        self.assertEqual(names, [name for name in ORDER if name != "fitting"])


if __name__ == "__main__":
    unittest.main()
