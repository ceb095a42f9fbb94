"""Houses for the tests, built straight upon the house's own parts, and pictures of them to compare."""

from leadnames.house import House
from leadnames.walks import Failed, Found, Ring

# Of another kind than an asker, a path, a name, a right, a tree or a number is.
NO_KIND = [None, True, False, -1, 10 ** 30, [], ["ann"], ["main"], [0], (), ("ann",), (0,), {}, {"ann": 0}, set(),
           {"main"}, frozenset("l"), b"", b"ann", b"/", object(), str]

NO_TEXTS = NO_KIND + [0, 1, 7]
NO_NUMBERS = NO_KIND + ["", "0", "ann", "/"]


def folder(house, where, name, owner="ann", mine="lgw", rest="lg"):
    number = house.things.add_folder(owner, mine, rest)
    house.things.put_name(where, name, number)
    return number


def file(house, where, name, text="", owner="ann", mine="lgw", rest="lg"):
    number = house.things.add_file(owner, text, mine, rest)
    house.things.put_name(where, name, number)
    return number


def lead(house, where, name, path, owner="ann"):
    number = house.things.add_lead(owner, path)
    house.things.put_name(where, name, number)
    return number


def hung(house, tree, over, owner="ann"):
    root = house.add_tree(tree, owner)
    house.hang_tree(tree, over)
    return root


def new_house():
    """Asker ann, the owner, and ben; the root alone."""
    house = House("ann")
    house.enroll("ben")
    return house


def nested_house():
    """Folders 0 /a 1 /a/b 2 /a/b/c 3 /d 4, file 5 at /a/f, lead 6 at /d/l for ../a."""
    house = new_house()
    folder(house, 0, "a")
    folder(house, 1, "b")
    folder(house, 2, "c")
    folder(house, 0, "d")
    file(house, 1, "f", "some text")
    lead(house, 4, "l", "../a")
    return house


def picture(house):
    """All that a house keeps, as one value."""
    things = [(house.kind_of(number), house.owner_of(number), house.rights_of(number), house.text_of(number),
               house.places_of(number), [(name, house.child(number, name)) for name in house.names_in(number)])
              for number in range(house.many())]
    askers = [(asker, house.root_of(asker), house.standing_of(asker)) for asker in house.askers()]
    trees = [(tree, house.tree_root(tree), house.covered_by(tree)) for tree in house.trees()]
    return (things, askers, trees)


def shown(told):
    """What was told as one tuple, so that class and fields are compared at once."""
    if type(told) is Found:
        return ("found", told.number, told.way)
    if type(told) is Failed:
        return ("failed", told.step, told.reason)
    assert type(told) is Ring
    return ("ring", told.leads)
