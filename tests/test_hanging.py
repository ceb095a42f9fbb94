"""Points 24 to 27: trees made, hung and taken down, standings and roots."""

import unittest

from houses import HouseCase, outcome, shown
from leadnames.hanging import hang, make_tree, set_root, stand, take
from leadnames.house import House
from leadnames.making import drop, look, make_file, make_folder, make_lead, set_rights
from leadnames.moving import move
from leadnames.places import base_of, is_seen, stack_of, top_of, tree_of
from leadnames.walks import asked_of, walk

EIGHT = ("", "l", "g", "w", "lg", "lw", "gw", "lgw")


def hanging_house():
    """Folders /a 1 and /a/b 2, file /f 3, trees wood and tip with roots 4 and 5, hung nowhere; all open to all."""
    house = House("ann")
    house.enroll("ben")
    set_rights(house, "ann", "/", "lgw", "lgw")
    make_folder(house, "ann", "/a", "lgw", "lgw")
    make_folder(house, "ann", "/a/b", "lgw", "lgw")
    make_file(house, "ann", "/f", "text", "lgw", "lgw")
    make_tree(house, "ann", "wood")
    make_tree(house, "ben", "tip")
    return house


class MakeTree(HouseCase):

    def test_done(self):
        house = hanging_house()
        told, changes = self.done(house, make_tree, "ben", "new")
        self.assertEqual(told, 6)
        self.assertEqual(changes, {"many": 7, "trees": ["main", "new", "tip", "wood"], ("tree", "new"): (6, None),
                                   ("thing", 6): ("folder", "ben", ("lgw", "lg"), ""), ("places", 6): [],
                                   ("names", 6): {}})
        self.assertIsNone(house.covered_by("new"))
        self.assertEqual(house.tree_root("new"), 6)
        self.assertEqual(tree_of(house, 6), "new")

    def test_by_each_asker(self):
        house = House("ann")
        house.enroll("ben")
        self.assertEqual(make_tree(house, "ben", "one"), 1)
        self.assertEqual(make_tree(house, "ann", "abcdefgh"), 2)
        self.assertEqual((house.owner_of(1), house.owner_of(2)), ("ben", "ann"))

    def test_like_an_asker_or_a_name(self):
        house = hanging_house()
        self.assertEqual(make_tree(house, "ann", "ann"), 6)
        self.assertEqual(make_tree(house, "ann", "a"), 7)

    def test_there(self):
        house = hanging_house()
        hang(house, "ann", "wood", "/a")
        for asker in ("ann", "ben"):
            for tree in ("main", "wood", "tip"):
                self.no_deed(house, "there", make_tree, asker, tree)
        self.assertEqual(make_tree(house, "ben", "new"), 6)

    def test_it_is_seen_by_nobody_until_it_is_hung(self):
        house = hanging_house()
        self.assertFalse(is_seen(house, "ann", 4))
        self.assertFalse(is_seen(house, "ben", 5))
        hang(house, "ben", "tip", "/a")
        self.assertTrue(is_seen(house, "ann", 5))
        self.assertFalse(is_seen(house, "ann", 1))


class Hang(HouseCase):

    def test_over_a_folder(self):
        house = hanging_house()
        told, changes = self.done(house, hang, "ben", "wood", "/a")
        self.assertIsNone(told)
        self.assertEqual(changes, {("tree", "wood"): (4, 1)})
        self.assertEqual(shown(walk(house, "ann", "/a")), ("found", 4, "/a"))
        self.assertEqual(shown(walk(house, "ann", "/a/..")), ("found", 0, "/"))
        self.assertEqual(shown(walk(house, "ann", "/a/b")), ("failed", 2, "none"))
        self.assertEqual(asked_of(house, "ann", "/a/b"), [0, 4])
        self.assertEqual((top_of(house, 1), base_of(house, 4), stack_of(house, 1)), (4, 1, [1, 4]))

    def test_over_the_root(self):
        house = hanging_house()
        told, changes = self.done(house, hang, "ann", "wood", "/")
        self.assertEqual(changes, {("tree", "wood"): (4, 0)})
        self.assertEqual(shown(walk(house, "ann", "/")), ("found", 4, "/"))
        self.assertEqual(shown(walk(house, "ann", "/a")), ("failed", 1, "none"))
        self.assertEqual(shown(walk(house, "ann", "..")), ("found", 4, "/"))
        self.assertEqual(make_folder(house, "ann", "/a", "g", "g"), 6)
        self.assertEqual(shown(walk(house, "ben", "a/..")), ("found", 4, "/"))
        take(house, "ann", "wood")
        self.assertEqual(shown(walk(house, "ann", "/a/b")), ("found", 2, "/a/b"))

    def test_one_over_another(self):
        house = hanging_house()
        hang(house, "ann", "wood", "/a")
        told, changes = self.done(house, hang, "ann", "tip", "/a")
        self.assertEqual(changes, {("tree", "tip"): (5, 4)})
        self.assertEqual(stack_of(house, 1), [1, 4, 5])
        self.assertEqual(shown(walk(house, "ann", "/a")), ("found", 5, "/a"))
        self.assertEqual(shown(walk(house, "ann", "a/../a/../a")), ("found", 5, "/a"))

    def test_by_a_lead(self):
        house = hanging_house()
        make_lead(house, "ann", "/l", "a/b")
        hang(house, "ann", "wood", "/l")
        self.assertEqual(house.covered_by("wood"), 2)

    def test_over_a_folder_in_another_tree(self):
        house = hanging_house()
        hang(house, "ann", "wood", "/a")
        make_folder(house, "ann", "/a/in", "lgw", "lgw")
        hang(house, "ben", "tip", "/a/in")
        self.assertEqual(house.covered_by("tip"), 6)
        self.assertEqual(shown(walk(house, "ben", "a/in")), ("found", 5, "/a/in"))
        self.assertEqual(shown(walk(house, "ben", "a/in/..")), ("found", 4, "/a"))

    def test_over_ones_own_standing_and_root(self):
        house = hanging_house()
        set_root(house, "ben", "/a")
        stand(house, "ben", "/b")
        hang(house, "ben", "wood", ".")
        hang(house, "ben", "tip", "/")
        self.assertEqual((house.covered_by("wood"), house.covered_by("tip")), (2, 1))
        self.assertEqual((house.root_of("ben"), house.standing_of("ben")), (1, 2))
        self.assertEqual(shown(walk(house, "ben", "/")), ("found", 5, "/"))
        self.assertEqual(shown(walk(house, "ben", ".")), ("failed", 0, "outside"))

    def test_file(self):
        house = hanging_house()
        make_lead(house, "ann", "/l", "f")
        self.no_deed(house, "file", hang, "ann", "wood", "/f")
        self.no_deed(house, "file", hang, "ben", "wood", "/l")

    def test_file_ahead_of_hung(self):
        house = hanging_house()
        hang(house, "ann", "wood", "/a")
        self.no_deed(house, "file", hang, "ann", "wood", "/f")
        self.no_deed(house, "file", hang, "ann", "main", "/f")

    def test_hung(self):
        house = hanging_house()
        self.no_deed(house, "hung", hang, "ann", "main", "/a")
        hang(house, "ann", "wood", "/a")
        self.no_deed(house, "hung", hang, "ann", "wood", "/")
        self.no_deed(house, "hung", hang, "ann", "wood", "/a")
        self.no_deed(house, "hung", hang, "ben", "main", "/a")
        take(house, "ann", "wood")
        self.assertIsNone(hang(house, "ann", "wood", "/a/b"))

    def test_hung_ahead_of_ring_and_kept(self):
        house = hanging_house()
        self.no_deed(house, "hung", hang, "ann", "main", "/")
        hang(house, "ann", "wood", "/a")
        self.no_deed(house, "hung", hang, "ann", "wood", "/a")
        set_rights(house, "ann", "/", "lg", "lg")
        self.no_deed(house, "hung", hang, "ann", "wood", "/")
        self.no_deed(house, "hung", hang, "ann", "main", "/")
        set_rights(house, "ann", "/a", "lg", "lg")
        self.no_deed(house, "hung", hang, "ann", "wood", "/a")

    def rooted_in_wood(self):
        """The root and the standing of ben in wood, root 4, that is hung nowhere, with folder 6 in it."""
        house = hanging_house()
        hang(house, "ann", "wood", "/a")
        set_rights(house, "ann", "/a", "lgw", "lgw")
        make_folder(house, "ann", "/a/in", "lgw", "lgw")
        set_root(house, "ben", "/a")
        take(house, "ann", "wood")
        return house

    def test_ring_over_its_own_root_and_a_folder_in_it(self):
        house = self.rooted_in_wood()
        self.no_deed(house, "ring", hang, "ben", "wood", "/")
        self.no_deed(house, "ring", hang, "ben", "wood", "/in")
        self.assertIsNone(hang(house, "ben", "tip", "/in"))

    def test_ring_by_others(self):
        house = self.rooted_in_wood()
        hang(house, "ben", "tip", "/in")
        make_folder(house, "ben", "/in/deep")
        make_tree(house, "ben", "leaf")
        hang(house, "ben", "leaf", "/in/deep")
        self.no_deed(house, "ring", hang, "ben", "wood", "/in")
        self.no_deed(house, "ring", hang, "ben", "wood", "/in/deep")
        self.no_deed(house, "ring", hang, "ben", "wood", "/")
        self.no_deed(house, "hung", hang, "ben", "leaf", "/in")
        self.assertIsNone(hang(house, "ann", "wood", "/a"))
        self.assertEqual(shown(walk(house, "ann", "/a/in/deep")), ("found", 8, "/a/in/deep"))

    def test_ring_by_a_root_that_is_covered(self):
        house = self.rooted_in_wood()
        hang(house, "ben", "tip", "/")
        self.no_deed(house, "ring", hang, "ben", "wood", "/")
        self.assertEqual(house.covered_by("tip"), 4)

    def test_ring_ahead_of_kept(self):
        house = self.rooted_in_wood()
        hang(house, "ann", "wood", "/a")
        set_rights(house, "ann", "/a", "lgw", "lg")
        take(house, "ann", "wood")
        self.no_deed(house, "ring", hang, "ben", "wood", "/")
        self.no_deed(house, "kept", hang, "ben", "tip", "/")
        self.no_deed(house, "hung", hang, "ben", "main", "/")

    def test_a_tree_that_hangs_in_another_way_makes_none(self):
        house = self.rooted_in_wood()
        make_tree(house, "ann", "leaf")
        hang(house, "ann", "leaf", "/a/b")
        self.assertIsNone(hang(house, "ann", "wood", "/a/b"))
        self.assertEqual(stack_of(house, 2), [2, 7, 4])

    def test_kept(self):
        for mine in EIGHT:
            for rest in EIGHT:
                for asker, rights in (("ann", mine), ("ben", rest)):
                    house = hanging_house()
                    set_rights(house, "ann", "/a", mine, rest)
                    if "w" in rights:
                        self.assertIsNone(hang(house, asker, "wood", "/a"))
                        self.assertEqual(house.covered_by("wood"), 1)
                    else:
                        self.no_deed(house, "kept", hang, asker, "wood", "/a")

    def test_kept_is_asked_of_the_folder_found(self):
        house = hanging_house()
        hang(house, "ann", "wood", "/a")
        self.no_deed(house, "kept", hang, "ben", "tip", "/a")
        set_rights(house, "ann", "/a", "lg", "w")
        self.assertIsNone(hang(house, "ben", "tip", "/a"))
        self.assertEqual(house.covered_by("tip"), 4)

    def test_the_trees_owner_is_no_matter(self):
        house = hanging_house()
        hang(house, "ben", "wood", "/a")
        hang(house, "ann", "tip", "/")
        self.assertEqual((house.covered_by("wood"), house.covered_by("tip")), (1, 0))


class Take(HouseCase):

    def test_done(self):
        house = hanging_house()
        hang(house, "ann", "wood", "/a")
        make_file(house, "ann", "/a/x", "")
        told, changes = self.done(house, take, "ben", "wood")
        self.assertIsNone(told)
        self.assertEqual(changes, {("tree", "wood"): (4, None)})
        self.assertEqual(shown(walk(house, "ann", "/a/b")), ("found", 2, "/a/b"))
        self.assertEqual(house.names_in(4), ["x"])
        hang(house, "ann", "wood", "/a/b")
        self.assertEqual(shown(walk(house, "ann", "/a/b/x")), ("found", 6, "/a/b/x"))

    def test_free(self):
        house = hanging_house()
        for asker in ("ann", "ben"):
            for tree in ("main", "wood", "tip"):
                self.no_deed(house, "free", take, asker, tree)
        hang(house, "ann", "wood", "/a")
        self.no_deed(house, "free", take, "ann", "main")
        self.no_deed(house, "free", take, "ann", "tip")
        take(house, "ann", "wood")
        self.no_deed(house, "free", take, "ann", "wood")

    def test_main_is_free_where_its_root_is_covered(self):
        house = hanging_house()
        hang(house, "ann", "wood", "/")
        self.no_deed(house, "free", take, "ann", "main")

    def test_kept(self):
        for mine in EIGHT:
            for rest in EIGHT:
                rights = {"ann": mine, "ben": rest}
                hanging = [asker for asker in rights if "w" in rights[asker]]
                for asker in rights if hanging else ():
                    house = hanging_house()
                    set_rights(house, "ann", "/a", mine, rest)
                    hang(house, hanging[0], "wood", "/a")
                    if asker in hanging:
                        self.assertIsNone(take(house, asker, "wood"))
                        self.assertIsNone(house.covered_by("wood"))
                    else:
                        self.no_deed(house, "kept", take, asker, "wood")

    def test_the_rights_of_the_trees_root_are_no_matter(self):
        house = hanging_house()
        hang(house, "ann", "wood", "/a")
        set_rights(house, "ann", "/a", "", "")
        self.assertIsNone(take(house, "ben", "wood"))

    def test_no_walk_is_needed(self):
        house = hanging_house()
        hang(house, "ann", "wood", "/a/b")
        set_rights(house, "ann", "/a", "", "")
        set_rights(house, "ann", "/", "", "")
        self.assertIsNone(take(house, "ben", "wood"))
        self.assertIsNone(house.covered_by("wood"))

    def test_with_another_one_over_its_root(self):
        house = hanging_house()
        hang(house, "ann", "wood", "/a")
        hang(house, "ann", "tip", "/a")
        told, changes = self.done(house, take, "ann", "wood")
        self.assertEqual(changes, {("tree", "wood"): (4, None)})
        self.assertEqual(stack_of(house, 4), [4, 5])
        self.assertEqual(shown(walk(house, "ann", "/a/b")), ("found", 2, "/a/b"))
        hang(house, "ann", "wood", "/a/b")
        self.assertEqual(shown(walk(house, "ann", "/a/b")), ("found", 5, "/a/b"))
        take(house, "ann", "tip")
        self.assertEqual(shown(walk(house, "ann", "/a/b")), ("found", 4, "/a/b"))

    def test_from_between_two(self):
        house = hanging_house()
        hang(house, "ann", "wood", "/a")
        hang(house, "ann", "tip", "/a")
        take(house, "ann", "tip")
        self.assertEqual(stack_of(house, 1), [1, 4])
        self.assertEqual((house.covered_by("wood"), house.covered_by("tip")), (1, None))


class Stand(HouseCase):

    def test_done(self):
        house = hanging_house()
        told, changes = self.done(house, stand, "ben", "/a/b")
        self.assertIsNone(told)
        self.assertEqual(changes, {("standing", "ben"): 2})
        told, changes = self.done(house, stand, "ben", "..")
        self.assertEqual(changes, {("standing", "ben"): 1})
        self.assertEqual(self.done(house, stand, "ben", "."), (None, {}))
        self.assertEqual(shown(walk(house, "ben", "b")), ("found", 2, "/a/b"))
        self.assertEqual(shown(walk(house, "ann", "b")), ("failed", 1, "none"))

    def test_no_right_in_the_folder_is_asked(self):
        house = hanging_house()
        set_rights(house, "ann", "/a", "lgw", "")
        stand(house, "ben", "/a")
        self.assertEqual(house.standing_of("ben"), 1)
        self.no_way(house, ("failed", 1, "shut"), stand, "ben", ".")
        self.no_way(house, ("failed", 1, "shut"), stand, "ben", "..")
        self.assertIsNone(stand(house, "ben", "/"))

    def test_to_a_top(self):
        house = hanging_house()
        hang(house, "ann", "wood", "/a")
        stand(house, "ben", "/a")
        self.assertEqual(house.standing_of("ben"), 4)
        hang(house, "ann", "tip", "/a")
        self.assertEqual(house.standing_of("ben"), 4)
        self.assertEqual(shown(walk(house, "ben", ".")), ("found", 5, "/a"))

    def test_file(self):
        house = hanging_house()
        make_lead(house, "ann", "/l", "f")
        for deed in (stand, set_root):
            self.no_deed(house, "file", deed, "ann", "/f")
            self.no_deed(house, "file", deed, "ben", "/l")

    def test_in_what_is_covered_later(self):
        house = hanging_house()
        stand(house, "ben", "/a/b")
        hang(house, "ann", "wood", "/a")
        self.assertEqual(house.standing_of("ben"), 2)
        self.assertEqual(shown(walk(house, "ben", ".")), ("failed", 0, "outside"))
        self.assertEqual(shown(walk(house, "ben", "..")), ("failed", 0, "outside"))
        self.assertEqual(asked_of(house, "ben", ".."), [])
        self.assertEqual(shown(walk(house, "ben", "/a")), ("found", 4, "/a"))
        take(house, "ann", "wood")
        self.assertEqual(shown(walk(house, "ben", "..")), ("found", 1, "/a"))

    def test_on_a_covered_folder_itself(self):
        house = hanging_house()
        stand(house, "ben", "/a")
        hang(house, "ann", "wood", "/a")
        self.assertEqual(shown(walk(house, "ben", ".")), ("found", 4, "/a"))

    def test_in_a_tree_that_is_taken_down(self):
        house = hanging_house()
        hang(house, "ann", "wood", "/a")
        stand(house, "ben", "/a")
        take(house, "ann", "wood")
        self.assertEqual(house.standing_of("ben"), 4)
        self.assertEqual(shown(walk(house, "ben", ".")), ("failed", 0, "outside"))
        hang(house, "ann", "wood", "/a/b")
        self.assertEqual(shown(walk(house, "ben", ".")), ("found", 4, "/a/b"))


class SetRoot(HouseCase):

    def test_done(self):
        house = hanging_house()
        told, changes = self.done(house, set_root, "ben", "/a")
        self.assertIsNone(told)
        self.assertEqual(changes, {("root", "ben"): 1, ("standing", "ben"): 1})
        self.assertEqual(shown(walk(house, "ben", "/b")), ("found", 2, "/b"))
        self.assertEqual(shown(walk(house, "ben", "..")), ("found", 1, "/"))
        self.assertEqual(shown(walk(house, "ann", "/a/b")), ("found", 2, "/a/b"))

    def test_the_standing_goes_along(self):
        house = hanging_house()
        stand(house, "ben", "/a/b")
        told, changes = self.done(house, set_root, "ben", "..")
        self.assertEqual(changes, {("root", "ben"): 1, ("standing", "ben"): 1})
        told, changes = self.done(house, stand, "ben", "b")
        told, changes = self.done(house, set_root, "ben", "/")
        self.assertEqual(changes, {("standing", "ben"): 1})

    def test_there_is_no_way_back(self):
        house = hanging_house()
        set_root(house, "ben", "/a/b")
        for path in ("..", "/..", "../..", "/../../.."):
            set_root(house, "ben", path)
            self.assertEqual(house.root_of("ben"), 2)

    def test_to_a_top(self):
        house = hanging_house()
        hang(house, "ann", "wood", "/a")
        set_root(house, "ben", "/a")
        self.assertEqual((house.root_of("ben"), house.standing_of("ben")), (4, 4))
        self.assertEqual(shown(walk(house, "ben", "..")), ("found", 4, "/"))
        take(house, "ann", "wood")
        self.assertEqual(shown(walk(house, "ben", "/")), ("found", 4, "/"))
        self.assertEqual(shown(walk(house, "ben", "..")), ("found", 4, "/"))
        set_rights(house, "ann", "/a", "lgw", "lgw")
        self.assertEqual(look(house, "ben", "/"), [])

    def test_in_what_is_covered(self):
        house = hanging_house()
        set_root(house, "ben", "/a/b")
        hang(house, "ann", "wood", "/a")
        self.assertEqual(shown(walk(house, "ben", "/")), ("found", 2, "/"))
        self.assertTrue(is_seen(house, "ben", 2))
        self.assertFalse(is_seen(house, "ann", 2))
        self.assertEqual(make_folder(house, "ben", "/c"), 6)
        self.assertEqual(house.places_of(6), [(2, "c")])

    def test_on_a_covered_folder_itself(self):
        house = hanging_house()
        set_root(house, "ben", "/a")
        hang(house, "ann", "wood", "/a")
        self.assertEqual(shown(walk(house, "ben", "/")), ("found", 4, "/"))
        self.assertEqual(shown(walk(house, "ben", "/b")), ("failed", 1, "none"))
        self.assertEqual(shown(walk(house, "ben", "..")), ("found", 4, "/"))

    def test_each_its_own(self):
        house = hanging_house()
        set_root(house, "ben", "/a")
        stand(house, "ann", "/a/b")
        house.enroll("carl")
        self.assertEqual([(house.root_of(asker), house.standing_of(asker)) for asker in ("ann", "ben", "carl")],
                         [(0, 2), (1, 1), (0, 0)])


class Busy(HouseCase):

    def test_a_covered_folder_and_a_root_are_not_dropped_nor_moved_over(self):
        house = hanging_house()
        make_folder(house, "ann", "/c", "lgw", "lgw")
        make_folder(house, "ann", "/d", "lgw", "lgw")
        make_folder(house, "ann", "/e", "lgw", "lgw")
        hang(house, "ann", "wood", "/c")
        set_root(house, "ben", "/d")
        for name in ("c", "d"):
            self.no_deed(house, "busy", drop, "ann", "/" + name)
            self.no_deed(house, "busy", move, "ann", "/e", "/" + name)
        take(house, "ann", "wood")
        self.assertIsNone(drop(house, "ann", "/c"))

    def test_done_where_none_is_due(self):
        self.assertEqual(outcome(hang, hanging_house(), "ben", "wood", "/a"), ("told", None))


if __name__ == "__main__":
    unittest.main()
