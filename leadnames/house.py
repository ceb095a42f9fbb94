"""The house: its askers, its trees and its things, and what it tells of them."""

from leadnames.errors import NoAsker, NoDeed, NoTree
from leadnames.things import Things
from leadnames.words import check_name, check_one_right

FIRST_TREE = "main"


class House:

    def __init__(self, owner):
        check_name(owner)
        self.things = Things()
        # As that of the things, for all that the house keeps beside them.
        self.changes = 0
        self.roots = {}
        self.standings = {}
        self.tree_roots = {}
        # Every hanging stands in both, so that it is found from the folder and from the tree's root alike.
        self.root_over = {}
        self.folder_under = {}
        # The holds that stand, by their numbers; given are these and those that were let go.
        self.holds = {}
        self.holds_given = 0
        self.first_root = self.add_tree(FIRST_TREE, owner)
        self.add_asker(owner)

    def enroll(self, name):
        check_name(name)
        if name in self.roots:
            raise NoDeed("there")
        self.add_asker(name)

    def askers(self):
        return sorted(self.roots)

    def trees(self):
        return sorted(self.tree_roots)

    def root_of(self, asker):
        self.check_asker(asker)
        return self.roots[asker]

    def standing_of(self, asker):
        self.check_asker(asker)
        return self.standings[asker]

    def kind_of(self, number):
        return self.things.at(number).kind

    def owner_of(self, number):
        return self.things.at(number).owner

    def rights_of(self, number):
        thing = self.things.at(number)
        return (thing.mine, thing.rest)

    def many(self):
        return self.things.many()

    def child(self, number, name):
        check_name(name)
        return self.things.child(number, name)

    def names_in(self, number):
        return self.things.names_in(number)

    def text_of(self, number):
        return self.things.at(number).text

    def place_of(self, number):
        return self.things.place_of(number)

    def places_of(self, number):
        return self.things.places_of(number)

    def tree_root(self, tree):
        self.check_tree(tree)
        return self.tree_roots[tree]

    def covered_by(self, tree):
        return self.folder_under.get(self.tree_root(tree))

    def may(self, asker, number, right):
        self.check_asker(asker)
        check_one_right(right)
        return right in self.things.at(number).rights_for(asker)

    def is_root(self, number):
        return number in list(self.roots.values())

    def is_standing(self, number):
        return number in list(self.standings.values())

    def is_tree_root(self, number):
        return number in list(self.tree_roots.values())

    def is_covered(self, number):
        return number in self.root_over

    def stamp(self):
        # Another one behind each change, and never again one that was.
        return (self.changes, self.things.changes)

    def check_asker(self, asker):
        # The kind is asked first: a list can't even be looked for in a dict.
        if not isinstance(asker, str) or asker not in self.roots:
            raise NoAsker("the house has no such asker")

    def check_tree(self, tree):
        if not isinstance(tree, str) or tree not in self.tree_roots:
            raise NoTree("the house has no such tree")

    def check_thing(self, number):
        self.things.at(number)

    # What follows refuses nothing: the deeds that call it have to see to that ahead of it.

    def add_asker(self, name):
        self.put_root(name, self.first_root)
        self.put_standing(name, self.first_root)

    def put_root(self, asker, folder):
        self.changes += 1
        self.roots[asker] = folder

    def put_standing(self, asker, folder):
        self.changes += 1
        self.standings[asker] = folder

    def add_tree(self, tree, owner):
        root = self.things.add_folder(owner, "lgw", "lg")
        self.changes += 1
        self.tree_roots[tree] = root
        return root

    def hang_tree(self, tree, folder):
        root = self.tree_roots[tree]
        self.changes += 1
        self.root_over[folder] = root
        self.folder_under[root] = folder

    def take_tree(self, tree):
        self.changes += 1
        folder = self.folder_under.pop(self.tree_roots[tree])
        self.root_over.pop(folder)

    def add_hold(self, held):
        number = self.holds_given
        self.holds_given += 1
        self.holds[number] = held
        return number

    def drop_hold(self, number):
        self.holds.pop(number)
