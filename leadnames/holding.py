"""Holds upon files, which last whatever becomes of names and rights, and what has become of a thing."""

from leadnames.errors import NoDeed, NoHold
from leadnames.making import check_may, find_file
from leadnames.words import check_rights, check_text, is_whole, parts_of


class Hold:

    def __init__(self, thing, rights):
        self.thing = thing
        self.rights = rights


def hold(house, asker, path, rights):
    house.check_asker(asker)
    parts_of(path)
    check_rights(rights)
    thing = find_file(house, asker, path)
    if "l" in rights:
        check_may(house, asker, thing, "l", "look")
    if "w" in rights:
        check_may(house, asker, thing, "w", "write")
    return house.add_hold(Hold(thing, rights))


def hold_at(house, number):
    # The kind is asked first: True would be taken for 1, and a list can't even be looked for in a dict.
    if not is_whole(number) or number not in house.holds:
        raise NoHold("no hold of this number stands")
    return house.holds[number]


def read_held(house, number):
    held = hold_at(house, number)
    if "l" not in held.rights:
        raise NoDeed("look")
    return house.text_of(held.thing)


def write_held(house, number, text):
    held = hold_at(house, number)
    check_text(text)
    if "w" not in held.rights:
        raise NoDeed("write")
    house.things.put_text(held.thing, text)


def thing_held(house, number):
    return hold_at(house, number).thing


def rights_held(house, number):
    return hold_at(house, number).rights


def let_go(house, number):
    hold_at(house, number)
    house.drop_hold(number)


def holds(house):
    return sorted(house.holds)


def is_held(house, number):
    return any([held.thing == number for held in house.holds.values()])


def state_of(house, number):
    if house.place_of(number) is not None or house.is_tree_root(number):
        return "named"
    if is_held(house, number) or house.is_root(number) or house.is_standing(number):
        return "held"
    return "gone"
