"""The deeds that make trees, hang them and take them down, and those that choose an asker's standing and root."""

from leadnames.errors import NoDeed
from leadnames.house import FIRST_TREE
from leadnames.making import check_kept, find_folder
from leadnames.places import tree_of
from leadnames.words import check_name, parts_of


def make_tree(house, asker, tree):
    house.check_asker(asker)
    check_name(tree)
    if tree in house.trees():
        raise NoDeed("there")
    return house.add_tree(tree, asker)


def hang(house, asker, tree, path):
    house.check_asker(asker)
    parts_of(path)
    house.check_tree(tree)
    folder = find_folder(house, asker, path)
    if tree == FIRST_TREE or house.covered_by(tree) is not None:
        raise NoDeed("hung")
    if rests_upon(house, tree_of(house, folder), tree):
        raise NoDeed("ring")
    check_kept(house, asker, folder)
    house.hang_tree(tree, folder)


def rests_upon(house, tree, other):
    here = tree
    while here != other:
        folder = house.covered_by(here)
        if folder is None:
            return False
        here = tree_of(house, folder)
    return True


def take(house, asker, tree):
    house.check_asker(asker)
    house.check_tree(tree)
    folder = house.covered_by(tree)
    if folder is None:
        raise NoDeed("free")
    check_kept(house, asker, folder)
    house.take_tree(tree)


def stand(house, asker, path):
    house.put_standing(asker, find_folder(house, asker, path))


def set_root(house, asker, path):
    folder = find_folder(house, asker, path)
    house.put_root(asker, folder)
    house.put_standing(asker, folder)
