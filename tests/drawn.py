"""Houses, deeds and questions drawn by lot, from written seeds, so that each run draws the same."""

import random

from houses import file, folder, lead, new_house, outcome
from leadnames.hanging import hang, make_tree, set_root, stand, take
from leadnames.holding import hold, holds, let_go, read_held, write_held
from leadnames.house import House
from leadnames.making import drop, look, make_file, make_folder, make_lead, name_file, read, set_rights, write
from leadnames.moving import move
from spelled import spelled_cover, spelled_top, spelled_tree

ASKERS = ("ann", "ben")
NAMES = ("a", "b", "c", "d")
TREES = ("one", "two", "three")
PIECES = NAMES + (".", "..", "a", "b")
OPEN_AND_SHUT = ("lgw", "g", "lg", "gw", "g", "lgw", "lw", "")
MOSTLY_OPEN = ("lgw",) * 12 + ("gw", "lg", "lw", "g", "")

DEEDS = {deed.__name__: deed for deed in (
    make_folder, make_file, make_lead, name_file, drop, set_rights, read, write, look, move, make_tree, hang, take,
    stand, set_root, hold)}

# In these no asker is asked.
HELD_DEEDS = {deed.__name__: deed for deed in (read_held, write_held, let_go)}

# Some are drawn more often, so that there is something in the house to walk by.
DRAWN = ["make_folder"] * 20 + ["make_file"] * 7 + ["make_lead"] * 8 + ["name_file"] * 8 + ["drop"] * 7 \
    + ["set_rights"] * 4 + ["read", "write", "look"] * 2 + ["move"] * 16 + ["make_tree"] * 2 + ["hang"] * 12 \
    + ["take"] * 4 + ["stand"] * 5 + ["set_root"] + ["hold"] * 3 + ["read_held", "write_held", "let_go"]


def drawn_path(lot, most):
    path = "/".join(lot.choice(PIECES) for part in range(lot.randint(1, most)))
    return lot.choice(("", "", "/")) + path + lot.choice(("", "", "", "/"))


def known_path(lot, house, asker, kinds):
    """A true path to something of these kinds that the asker could come to."""
    ways = [("/", spelled_top(house, house.root_of(asker)))]
    for way, here in ways:
        for name in house.names_in(here):
            number = house.child(here, name)
            top = spelled_top(house, number) if house.kind_of(number) == "folder" else number
            ways.append((way.rstrip("/") + "/" + name, top))
    return lot.choice([way for way, number in ways if house.kind_of(number) in kinds] or ["/"])


def some_path(lot, house, asker, kinds=("folder", "file", "lead")):
    if lot.random() < 0.01:
        return lot.choice(("", "A", "...", None, "a" * 9))
    return known_path(lot, house, asker, kinds) if lot.random() < 0.7 else drawn_path(lot, 4)


def some_seat(lot, house, asker):
    if lot.random() < 0.3:
        return some_path(lot, house, asker)
    return known_path(lot, house, asker, ("folder",)).rstrip("/") + "/" + lot.choice(NAMES)


def some_rights(lot):
    return lot.choice(("x", None)) if lot.random() < 0.01 else lot.choice(MOSTLY_OPEN)


def some_text(lot):
    return lot.choice(("a" * 61, None)) if lot.random() < 0.01 else lot.choice(("", "one text", " ", "other"))


def some_tree(lot):
    return lot.choice(("none", None, "Main")) if lot.random() < 0.01 else lot.choice(TREES * 3 + ("main",))


def some_hold(lot, house):
    return lot.choice((0, 1, 7, None, True)) if lot.random() < 0.1 else lot.choice(holds(house) or [0])


def drawn_handed(lot, house, deed, asker):
    """What is handed in behind the house and the asker."""
    path, seat = some_path(lot, house, asker), some_seat(lot, house, asker)
    if deed == "make_folder":
        return (seat, some_rights(lot), some_rights(lot))
    if deed == "make_file":
        return (seat, some_text(lot), some_rights(lot), some_rights(lot))
    if deed == "make_lead":
        known = known_path(lot, house, asker, ("folder", "file", "lead"))
        return (seat, lot.choice(("/", drawn_path(lot, 3), drawn_path(lot, 3), known[:120], known[1:120] or ".")))
    if deed == "name_file":
        return (some_path(lot, house, asker, ("file",)), seat)
    if deed == "move":
        return (path, seat)
    if deed == "set_rights":
        return (path, some_rights(lot), some_rights(lot))
    if deed == "write":
        return (path, some_text(lot))
    if deed in ("make_tree", "take"):
        return (some_tree(lot),)
    if deed == "hang":
        return (some_tree(lot), some_path(lot, house, asker, ("folder",)))
    if deed == "hold":
        return (some_path(lot, house, asker, ("file",)), some_rights(lot))
    if deed in ("read_held", "let_go"):
        return (some_hold(lot, house),)
    if deed == "write_held":
        return (some_hold(lot, house), some_text(lot))
    return (path,)


def drawn_deed(lot, house):
    """One deed: its name, the asker, and what is handed in behind it."""
    deed, asker = lot.choice(DRAWN), lot.choice(ASKERS)
    handed = drawn_handed(lot, house, deed, asker)
    return deed, lot.choice(("carl", None, "")) if lot.random() < 0.01 else asker, handed


def do_deed(house, deed, asker, handed):
    if deed in HELD_DEEDS:
        return outcome(HELD_DEEDS[deed], house, *handed)
    return outcome(DEEDS[deed], house, asker, *handed)


def begun_house():
    house = House("ann")
    house.enroll("ben")
    set_rights(house, "ann", "/", "lgw", "lgw")
    for tree in TREES:
        make_tree(house, "ben", tree)
    return house


def deeded_house(seed, many=120):
    """A house that deeds alone have made."""
    lot = random.Random(seed)
    house = begun_house()
    for again in range(many):
        do_deed(house, *drawn_deed(lot, house))
    return house


def folders_of(house):
    return [number for number in range(house.many()) if house.kind_of(number) == "folder"]


def drawn_thing(lot, house):
    where, name = lot.choice(folders_of(house)), lot.choice(NAMES)
    if house.child(where, name) is not None:
        return
    owner = lot.choice(ASKERS)
    sort = lot.choice(("folder", "folder", "file", "lead", "lead"))
    if sort == "folder":
        folder(house, where, name, owner, lot.choice(OPEN_AND_SHUT), lot.choice(OPEN_AND_SHUT))
    elif sort == "file":
        file(house, where, name, "", owner)
    else:
        lead(house, where, name, lot.choice(("/", drawn_path(lot, 3), drawn_path(lot, 3))), owner)


def drawn_house(seed):
    """A house that is put together out of its plain parts, also as no asker could have made it."""
    lot = random.Random(seed)
    house = new_house()
    for tree in TREES:
        house.add_tree(tree, lot.choice(ASKERS))
    for again in range(lot.randint(5, 40)):
        drawn_thing(lot, house)
    # A tree is hung into main and the trees told ahead of it alone, so that they make no ring.
    allowed = ["main"]
    for tree in TREES:
        free = [number for number in folders_of(house)
                if spelled_tree(house, number) in allowed and spelled_cover(house, number) is None]
        if lot.random() < 0.8:
            house.hang_tree(tree, lot.choice(free))
        allowed.append(tree)
    for asker in ASKERS:
        house.put_root(asker, lot.choice([0, 0, lot.choice(folders_of(house))]))
        house.put_standing(asker, lot.choice([house.root_of(asker), lot.choice(folders_of(house))]))
    empty = [number for number in folders_of(house)
             if house.names_in(number) == [] and house.place_of(number) is not None
             and spelled_cover(house, number) is None and number not in (house.root_of("ann"), house.root_of("ben"))]
    for number in empty[:1]:
        house.things.drop_name(*house.place_of(number))
    return house


def all_questions(house, seed, many=60):
    lot = random.Random(seed)
    paths = ["/", ".", ".."] + [drawn_path(lot, 6) for again in range(many)]
    return [(asker, path, last) for asker in ASKERS for path in paths for last in (True, False)]
