"""A house as one text of rows."""

from leadnames.holding import holds, rights_held, thing_held
from leadnames.things import FILE, FOLDER

# Stands for rights without signs, and for the folder of a tree that is not hung.
NOTHING = "-"


def shown(house):
    rows = asker_rows(house) + tree_rows(house) + thing_rows(house) + name_rows(house) + hold_rows(house)
    return "\n".join(rows)


def rights_word(rights):
    return NOTHING if rights == "" else rights


def asker_rows(house):
    return [asker_row(house, asker) for asker in house.askers()]


def asker_row(house, asker):
    root = house.root_of(asker)
    standing = house.standing_of(asker)
    return f"asker {asker} {root} {standing}"


def tree_rows(house):
    return [tree_row(house, tree) for tree in house.trees()]


def tree_row(house, tree):
    root = house.tree_root(tree)
    covered = house.covered_by(tree)
    folder = NOTHING if covered is None else covered
    return f"tree {tree} {root} {folder}"


def thing_rows(house):
    return [thing_row(house, number) for number in range(house.many())]


def thing_row(house, number):
    kind = house.kind_of(number)
    owner = house.owner_of(number)
    rights = house.rights_of(number)
    mine = rights_word(rights[0])
    rest = rights_word(rights[1])
    text = house.text_of(number)
    if kind == FOLDER:
        return f"{kind} {number} {owner} {mine} {rest}"
    if kind == FILE:
        return f"{kind} {number} {owner} {mine} {rest} {text}"
    return f"{kind} {number} {owner} {text}"


def name_rows(house):
    rows = []
    for folder in range(house.many()):
        for name in house.names_in(folder):
            number = house.child(folder, name)
            rows.append(f"name {folder} {name} {number}")
    return rows


def hold_rows(house):
    return [hold_row(house, number) for number in holds(house)]


def hold_row(house, number):
    thing = thing_held(house, number)
    rights = rights_word(rights_held(house, number))
    return f"hold {number} {thing} {rights}"
