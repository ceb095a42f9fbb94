"""Houses for the tests, pictures of them to compare, and what deeds answer."""

import unittest

from leadnames.errors import LeadError, NoDeed, NoWay
from leadnames.holding import holds, rights_held, thing_held
from leadnames.house import House
from leadnames.walks import Failed, Found, Ring

# Of another kind than an asker, a path, a name, a right, a tree or a number is.
NO_KIND = [None, True, False, -1, 10 ** 30, [], ["ann"], ["main"], [0], (), ("ann",), (0,), {}, {"ann": 0}, set(),
           {"main"}, frozenset("l"), b"", b"ann", b"/", object(), str]

NO_TEXTS = NO_KIND + [0, 1, 7]
NO_NUMBERS = NO_KIND + ["", "0", "ann", "/"]


def folder(house, where, name, owner="ann", mine="lgw", rest="lg"):
    number = house.things.add_folder(owner, mine, rest)
    house.things.put_name(where, name, number)
    return number


def file(house, where, name, text="", owner="ann", mine="lgw", rest="lg"):
    number = house.things.add_file(owner, text, mine, rest)
    house.things.put_name(where, name, number)
    return number


def lead(house, where, name, path, owner="ann"):
    number = house.things.add_lead(owner, path)
    house.things.put_name(where, name, number)
    return number


def hung(house, tree, over, owner="ann"):
    root = house.add_tree(tree, owner)
    house.hang_tree(tree, over)
    return root


def new_house():
    """Asker ann, the owner, and ben; the root alone."""
    house = House("ann")
    house.enroll("ben")
    return house


def nested_house():
    """Folders 0 /a 1 /a/b 2 /a/b/c 3 /d 4, file 5 at /a/f, lead 6 at /d/l for ../a."""
    house = new_house()
    folder(house, 0, "a")
    folder(house, 1, "b")
    folder(house, 2, "c")
    folder(house, 0, "d")
    file(house, 1, "f", "some text")
    lead(house, 4, "l", "../a")
    return house


def picture(house):
    """All that a house tells, under one key for each thing, asker, tree and hold."""
    told = {"many": house.many(), "askers": house.askers(), "trees": house.trees()}
    for asker in house.askers():
        told["root", asker] = house.root_of(asker)
        told["standing", asker] = house.standing_of(asker)
    for tree in house.trees():
        told["tree", tree] = (house.tree_root(tree), house.covered_by(tree))
    for number in range(house.many()):
        told["thing", number] = (house.kind_of(number), house.owner_of(number), house.rights_of(number),
                                 house.text_of(number))
        told["places", number] = house.places_of(number)
        told["names", number] = {name: house.child(number, name) for name in house.names_in(number)}
    told["holds"] = holds(house)
    for number in holds(house):
        told["hold", number] = (thing_held(house, number), rights_held(house, number))
    return told


def changed(before, after):
    """The keys under which two pictures differ, each with what the second one has there."""
    return {key: after.get(key) for key in list(before) + list(after) if before.get(key) != after.get(key)}


def outcome(deed, *handed, **named):
    """What a deed tells, or by which class and with which field it refuses."""
    try:
        return ("told", deed(*handed, **named))
    except NoDeed as refusal:
        assert type(refusal) is NoDeed
        return ("NoDeed", refusal.reason)
    except NoWay as refusal:
        assert type(refusal) is NoWay
        return ("NoWay", shown(refusal.told))
    except LeadError as refusal:
        return type(refusal).__name__


class HouseCase(unittest.TestCase):

    def done(self, house, deed, *handed, **named):
        """What a deed tells, and what it has changed."""
        before = picture(house)
        told = deed(house, *handed, **named)
        return told, changed(before, picture(house))

    def refused(self, house, refusal, deed, *handed, **named):
        """Of a deed that it refuses so, and changes nothing."""
        before = picture(house)
        self.assertEqual(outcome(deed, house, *handed, **named), refusal, handed)
        self.assertEqual(picture(house), before, handed)

    def no_deed(self, house, reason, deed, *handed, **named):
        self.refused(house, ("NoDeed", reason), deed, *handed, **named)

    def no_way(self, house, told, deed, *handed, **named):
        self.refused(house, ("NoWay", told), deed, *handed, **named)


def shown(told):
    """What was told as one tuple, so that class and fields are compared at once."""
    if type(told) is Found:
        return ("found", told.number, told.way)
    if type(told) is Failed:
        return ("failed", told.step, told.reason)
    assert type(told) is Ring
    return ("ring", told.leads)
