"""BOOKS, SHUFFLES and DEEDS shown as texts."""

from wellstrewn.places import STRAW, places_of


def show_row(words):
    """A line of words and integers, one blank between two."""
    return " ".join([str(word) for word in words])


def dungeon_lines(dungeon):
    """The lines of a DUNGEON, the first room on the line of the DUNGEON itself."""
    rooms, keys = dungeon
    lines = [show_row(["dungeon", keys, rooms[0][2]])]
    for parent, way, chests in rooms[1:]:
        lines.append(show_row(["room", way, parent, chests]))
    return lines


def world_lines(world):
    """The lines of a WORLD and its REGIONS."""
    lines = [show_row(["world", world[0]])]
    for name, chests, dungeon in world[1]:
        lines.append(show_row(["region", name, chests]))
        if dungeon is not None:
            lines.extend(dungeon_lines(dungeon))
    return lines


def arrow_lines(book, world):
    """The lines of the ARROWS of a WORLD."""
    name, regions, arrows = world
    lines = []
    for one, other, needs in arrows:
        words = ["arrow", name, regions[one][0], regions[other][0]]
        lines.append(show_row(words + [book[1][t][0] for t in needs]))
    return lines


def show_book(book):
    """The text of a BOOK."""
    worlds, things = book
    lines = [line for world in worlds for line in world_lines(world)]
    lines.extend([show_row(["thing", name, worlds[owner][0]]) for name, owner in things])
    lines.extend([line for world in worlds for line in arrow_lines(book, world)])
    return "\n".join(lines)


def show_content(book, content):
    """The words of a CONTENT."""
    if content[0] == "thing":
        return show_row(["thing", book[1][content[1]][0]])
    return content[0]


def show_place(book, place):
    """The words of a PLACE."""
    w, r, v, i = place
    name, regions, _ = book[0][w]
    inside = [] if v == -1 else [v]
    return show_row([name, regions[r][0]] + inside + [i])


def show_shuffle(book, shuffle):
    """The text of a SHUFFLE, "" if all is straw."""
    pairs = list(zip(places_of(book), shuffle))
    lines = [[show_content(book, content), show_place(book, place)] for place, content in pairs if content != STRAW]
    return "\n".join([show_row(line) for line in lines])


def show_deed(book, deed):
    """The line of a DEED in its form."""
    word, what = deed
    if word == "open":
        return show_row([word, show_place(book, what)])
    if word == "leave":
        return show_row([word, book[0][what][0]])
    w, r, v = what
    name, regions, _ = book[0][w]
    return show_row([word, name, regions[r][0], v])
