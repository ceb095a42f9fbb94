"""Point 23: move, done and refused."""

import itertools
import unittest

from houses import HouseCase, outcome, picture, shown
from leadnames.hanging import hang, make_tree, set_root, stand, take
from leadnames.house import House
from leadnames.making import drop, make_file, make_folder, make_lead, name_file, set_rights
from leadnames.moving import move
from leadnames.places import is_below, tree_of
from leadnames.walks import walk


def moving_house():
    """Folders /a 1, /b 2, /a/in 3, file /f 4, lead /l 5 for a, and wood, root 6, over folder 7 at /hook."""
    house = House("ann")
    house.enroll("ben")
    set_rights(house, "ann", "/", "lgw", "lgw")
    make_folder(house, "ann", "/a", "lgw", "lgw")
    make_folder(house, "ann", "/b", "lgw", "lgw")
    make_folder(house, "ann", "/a/in", "lgw", "lgw")
    make_file(house, "ann", "/f", "text", "lgw", "lgw")
    make_lead(house, "ann", "/l", "a")
    make_tree(house, "ann", "wood")
    make_folder(house, "ann", "/hook", "lgw", "lgw")
    hang(house, "ann", "wood", "/hook")
    set_rights(house, "ann", "/hook", "lgw", "lgw")
    return house


ALL = {"a": 1, "b": 2, "f": 4, "l": 5, "hook": 7}


def without(*names):
    return {name: number for name, number in ALL.items() if name not in names}


class Done(HouseCase):

    def test_each_kind_to_a_new_name(self):
        for name, number in (("a", 1), ("f", 4), ("l", 5)):
            house = moving_house()
            told, changes = self.done(house, move, "ben", "/" + name, "/new")
            self.assertIsNone(told)
            self.assertEqual(changes, {("names", 0): without(name) | {"new": number}, ("places", number): [(0, "new")]})

    def test_each_kind_into_another_folder(self):
        for name, number in (("a", 1), ("f", 4), ("l", 5)):
            house = moving_house()
            told, changes = self.done(house, move, "ben", name, "/b/new")
            self.assertIsNone(told)
            self.assertEqual(changes, {("names", 0): without(name), ("names", 2): {"new": number},
                                       ("places", number): [(2, "new")]})

    def test_what_lies_in_a_folder_goes_along(self):
        house = moving_house()
        move(house, "ann", "/a", "/b/c")
        self.assertEqual(shown(walk(house, "ann", "/b/c/in")), ("found", 3, "/b/c/in"))
        self.assertTrue(is_below(house, 3, 2))
        self.assertEqual(house.places_of(3), [(1, "in")])

    def test_out_of_a_folder(self):
        house = moving_house()
        told, changes = self.done(house, move, "ann", "/a/in", "/in")
        self.assertEqual(changes, {("names", 0): ALL | {"in": 3}, ("names", 1): {}, ("places", 3): [(0, "in")]})

    def test_a_folder_into_a_lead_that_leads_elsewhere(self):
        house = moving_house()
        move(house, "ann", "/b", "/l/c")
        self.assertEqual(house.places_of(2), [(1, "c")])

    def test_rights_and_owner_of_what_is_moved_are_no_matter(self):
        house = moving_house()
        set_rights(house, "ann", "/f", "", "")
        set_rights(house, "ann", "/b", "", "")
        move(house, "ben", "/f", "/a/f")
        move(house, "ben", "/b", "/a/b")
        self.assertEqual(house.names_in(1), ["b", "f", "in"])

    def test_it_has_its_number_owner_rights_and_text_still(self):
        house = moving_house()
        before = picture(house)
        move(house, "ben", "/f", "/a/f")
        for number in range(house.many()):
            self.assertEqual(picture(house)["thing", number], before["thing", number])
        self.assertEqual(house.many(), 8)


class SameThing(HouseCase):

    def test_both_seats_one(self):
        house = moving_house()
        for one, other in (("/a", "/a"), ("/f", "f"), ("/l", "./l"), ("/a/in", "/l/in"), ("/hook", "/b/../hook")):
            self.assertEqual(self.done(house, move, "ben", one, other), (None, {}))

    def test_also_where_it_is_covered_or_full_or_a_root(self):
        house = moving_house()
        set_root(house, "ben", "/a")
        self.assertEqual(self.done(house, move, "ann", "/a", "a"), (None, {}))
        self.assertEqual(self.done(house, move, "ann", "/hook", "hook"), (None, {}))

    def test_both_names_of_one_file(self):
        house = moving_house()
        name_file(house, "ann", "/f", "/b/g")
        for one, other in (("/f", "/b/g"), ("/b/g", "/f")):
            self.assertEqual(self.done(house, move, "ann", one, other), (None, {}))
        self.assertEqual(house.places_of(4), [(0, "f"), (2, "g")])

    def test_kept_goes_ahead(self):
        house = moving_house()
        name_file(house, "ann", "/f", "/b/g")
        set_rights(house, "ann", "/b", "lgw", "lg")
        self.no_deed(house, "kept", move, "ben", "/b/g", "/b/g")
        self.no_deed(house, "kept", move, "ben", "/f", "/b/g")
        self.no_deed(house, "kept", move, "ben", "/b/g", "/f")

    def test_none_goes_ahead(self):
        house = moving_house()
        self.no_deed(house, "none", move, "ann", "/none", "/none")
        self.no_deed(house, "none", move, "ann", "/none", "/nil")


class Over(HouseCase):

    def test_files_and_leads_over_one_another(self):
        for one, other in itertools.permutations((("f", 4), ("l", 5)), 2):
            house = moving_house()
            told, changes = self.done(house, move, "ben", "/" + one[0], "/" + other[0])
            self.assertIsNone(told)
            self.assertEqual(changes, {("names", 0): without(one[0]) | {other[0]: one[1]},
                                       ("places", one[1]): [(0, other[0])], ("places", other[1]): []})

    def test_a_file_over_a_file(self):
        house = moving_house()
        number = make_file(house, "ben", "/b/g", "other")
        name_file(house, "ben", "/b/g", "/b/h")
        told, changes = self.done(house, move, "ann", "/f", "/b/g")
        self.assertEqual(changes, {("names", 0): without("f"), ("names", 2): {"g": 4, "h": number},
                                   ("places", 4): [(2, "g")], ("places", number): [(2, "h")]})

    def test_a_lead_over_a_lead(self):
        house = moving_house()
        number = make_lead(house, "ben", "/b/l", "/none")
        told, changes = self.done(house, move, "ann", "/l", "/b/l")
        self.assertEqual(changes, {("names", 0): without("l"), ("names", 2): {"l": 5}, ("places", 5): [(2, "l")],
                                   ("places", number): []})

    def test_a_file_of_several_names(self):
        house = moving_house()
        name_file(house, "ann", "/f", "/g")
        name_file(house, "ann", "/f", "/a/g")
        told, changes = self.done(house, move, "ann", "/g", "/l")
        self.assertEqual(changes, {("names", 0): without("l") | {"l": 4},
                                   ("places", 4): [(0, "f"), (0, "l"), (1, "g")], ("places", 5): []})

    def test_a_folder_over_an_empty_one(self):
        house = moving_house()
        told, changes = self.done(house, move, "ben", "/a", "/b")
        self.assertIsNone(told)
        self.assertEqual(changes, {("names", 0): without("a", "b") | {"b": 1}, ("places", 1): [(0, "b")],
                                   ("places", 2): []})
        self.assertIsNone(tree_of(house, 2))
        self.assertEqual(tree_of(house, 3), "main")

    def test_a_folder_over_a_standing(self):
        house = moving_house()
        stand(house, "ben", "/b")
        move(house, "ann", "/a", "/b")
        self.assertEqual(house.standing_of("ben"), 2)
        self.assertEqual(shown(walk(house, "ben", ".")), ("failed", 0, "outside"))

    def test_a_folder_over_a_full_one(self):
        house = moving_house()
        self.no_deed(house, "full", move, "ann", "/b", "/a")
        self.no_deed(house, "full", move, "ann", "/a/in", "/a")
        drop(house, "ann", "/a/in")
        self.assertIsNone(move(house, "ann", "/b", "/a"))

    def test_a_folder_over_a_covered_one(self):
        house = moving_house()
        self.no_deed(house, "busy", move, "ann", "/b", "/hook")
        take(house, "ann", "wood")
        self.assertIsNone(move(house, "ann", "/b", "/hook"))

    def test_a_folder_over_an_askers_root(self):
        for asker in ("ann", "ben"):
            house = moving_house()
            set_root(house, asker, "/b")
            house.enroll("carl")
            self.no_deed(house, "busy", move, "carl", "/a", "/b")

    def test_busy_ahead_of_full(self):
        house = moving_house()
        set_root(house, "ben", "/a")
        self.no_deed(house, "busy", move, "ann", "/b", "/a")
        take(house, "ann", "wood")
        make_folder(house, "ann", "/hook/x")
        hang(house, "ann", "wood", "/hook")
        self.no_deed(house, "busy", move, "ann", "/b", "/hook")

    def test_there(self):
        house = moving_house()
        for thing in ("f", "l"):
            for where in ("a", "b", "hook", "a/in"):
                self.no_deed(house, "there", move, "ann", "/" + thing, "/" + where)
                if where != "hook":
                    self.no_deed(house, "there", move, "ann", "/" + where, "/" + thing)

    def test_there_ahead_of_busy_and_full(self):
        house = moving_house()
        set_root(house, "ben", "/b")
        self.no_deed(house, "there", move, "ann", "/f", "/b")
        self.no_deed(house, "there", move, "ann", "/f", "/a")
        self.no_deed(house, "there", move, "ann", "/l", "/hook")


class Ring(HouseCase):

    def test_into_itself(self):
        house = moving_house()
        self.no_deed(house, "ring", move, "ann", "/a", "/a/new")
        self.no_deed(house, "ring", move, "ann", "/a", "/a/in/new")
        self.no_deed(house, "ring", move, "ann", "/a", "/l/in/new")
        self.no_deed(house, "ring", move, "ann", "/b", "/b/b")

    def test_also_over_what_is_there(self):
        house = moving_house()
        make_file(house, "ann", "/a/f", "")
        make_folder(house, "ann", "/a/in/deep")
        for other in ("/a/in", "/a/f", "/a/in/deep"):
            self.no_deed(house, "ring", move, "ann", "/a", other)

    def test_into_its_brother_and_back(self):
        house = moving_house()
        move(house, "ann", "/a", "/b/a")
        self.no_deed(house, "ring", move, "ann", "/b", "/b/a/in/b")
        move(house, "ann", "/b/a", "/a")
        move(house, "ann", "/b", "/a/in/b")
        self.no_deed(house, "ring", move, "ann", "/a", "/a/in/b/a")

    def test_files_and_leads_make_none(self):
        house = moving_house()
        move(house, "ann", "/l", "/l/l")
        self.assertEqual(house.places_of(5), [(1, "l")])
        move(house, "ann", "/f", "/a/l")
        self.assertEqual((house.places_of(4), house.places_of(5)), ([(1, "l")], []))


class Busy(HouseCase):

    def test_a_covered_folder_stays(self):
        house = moving_house()
        self.no_deed(house, "busy", move, "ann", "/hook", "/new")
        self.no_deed(house, "busy", move, "ann", "/hook", "/b")
        take(house, "ann", "wood")
        self.assertIsNone(move(house, "ann", "/hook", "/new"))

    def test_a_folder_with_a_covered_one_in_it_goes(self):
        house = moving_house()
        take(house, "ann", "wood")
        hang(house, "ann", "wood", "/a/in")
        make_file(house, "ann", "/a/in/x", "")
        move(house, "ann", "/a", "/b/a")
        self.assertEqual(shown(walk(house, "ann", "/b/a/in/x")), ("found", 8, "/b/a/in/x"))
        self.assertEqual(house.covered_by("wood"), 3)

    def test_an_askers_root_goes(self):
        house = moving_house()
        set_root(house, "ben", "/a")
        told, changes = self.done(house, move, "ann", "/a", "/b/c")
        self.assertEqual(changes, {("names", 0): without("a"), ("names", 2): {"c": 1}, ("places", 1): [(2, "c")]})
        self.assertEqual((house.root_of("ben"), house.standing_of("ben")), (1, 1))
        self.assertEqual(shown(walk(house, "ben", "/in")), ("found", 3, "/in"))
        self.assertEqual(shown(walk(house, "ben", "/in/../../..")), ("found", 1, "/"))

    def test_a_standing_goes(self):
        house = moving_house()
        stand(house, "ben", "/a/in")
        move(house, "ann", "/a", "/b/c")
        self.assertEqual(house.standing_of("ben"), 3)
        self.assertEqual(shown(walk(house, "ben", "..")), ("found", 1, "/b/c"))

    def test_a_standing_that_goes_out_of_the_root(self):
        house = moving_house()
        set_root(house, "ben", "/a")
        stand(house, "ben", "/in")
        move(house, "ann", "/a/in", "/in")
        self.assertEqual((house.root_of("ben"), house.standing_of("ben")), (1, 3))
        self.assertEqual(shown(walk(house, "ben", ".")), ("failed", 0, "outside"))
        self.assertEqual(shown(walk(house, "ben", "/in")), ("failed", 1, "none"))
        self.assertEqual(shown(walk(house, "ben", "/")), ("found", 1, "/"))


class Trees(HouseCase):

    def test_other(self):
        house = moving_house()
        make_file(house, "ann", "/hook/f", "")
        make_folder(house, "ann", "/hook/d")
        for one, other in (("/f", "/hook/g"), ("/b", "/hook/b"), ("/l", "/hook/l"), ("/hook/f", "/g"),
                           ("/hook/d", "/d"), ("/f", "/hook/f"), ("/b", "/hook/d"), ("/f", "/hook/d"),
                           ("/hook/d", "/f")):
            self.no_deed(house, "other", move, "ann", one, other)

    def test_within_one(self):
        house = moving_house()
        make_file(house, "ann", "/hook/f", "")
        told, changes = self.done(house, move, "ben", "/hook/f", "/hook/g")
        self.assertEqual(changes, {("names", 6): {"g": 8}, ("places", 8): [(6, "g")]})

    def test_two_hangings_of_one_way(self):
        house = moving_house()
        make_folder(house, "ann", "/hook/d", "lgw", "lgw")
        make_tree(house, "ann", "tip")
        hang(house, "ann", "tip", "/hook/d")
        make_file(house, "ann", "/hook/d/f", "")
        self.no_deed(house, "other", move, "ann", "/hook/d/f", "/hook/f")
        self.no_deed(house, "other", move, "ann", "/hook/d/f", "/g")
        self.no_deed(house, "other", move, "ann", "/hook", "/hook/d/h")

    def test_other_ahead_of_busy_ring_there_and_full(self):
        house = moving_house()
        make_file(house, "ann", "/hook/f", "")
        make_folder(house, "ann", "/hook/d", "lgw", "lgw")
        make_file(house, "ann", "/hook/d/f", "")
        self.no_deed(house, "other", move, "ann", "/hook", "/hook/new")
        self.no_deed(house, "other", move, "ann", "/hook", "/hook/f")
        self.no_deed(house, "other", move, "ann", "/b", "/hook/f")
        self.no_deed(house, "other", move, "ann", "/b", "/hook/d")
        self.no_deed(house, "other", move, "ann", "/hook/d", "/a")


class Kept(HouseCase):

    def test_either_folder(self):
        rights = ("", "l", "g", "w", "lg", "lw", "gw", "lgw")
        for mine in rights:
            for rest in rights:
                for asker, asked in (("ann", mine), ("ben", rest)):
                    house = moving_house()
                    make_file(house, "ann", "/b/g", "")
                    set_rights(house, "ann", "/b", mine, rest)
                    for one, other in (("/b/g", "/a/g"), ("/f", "/b/g"), ("/b/g", "/b/h")):
                        if "g" not in asked:
                            self.no_way(house, ("failed", 2, "shut"), move, asker, one, other)
                        elif "w" not in asked:
                            self.no_deed(house, "kept", move, asker, one, other)
                    if "g" in asked and "w" in asked:
                        self.assertIsNone(move(house, asker, "/b/g", "/a/g"))
                        self.assertIsNone(move(house, asker, "/a/g", "/b/g"))

    def test_ahead_of_all_others(self):
        for which in ("/", "/b"):
            house = moving_house()
            make_folder(house, "ann", "/b/in", "lgw", "lgw")
            make_file(house, "ann", "/b/in/x", "")
            make_file(house, "ann", "/b/f", "")
            set_root(house, "ben", "/a/in")
            house.enroll("carl")
            set_rights(house, "ann", which, "lgw", "lg")
            for one, other in (("/none", "/b/x"), ("/b/x", "/none"), ("/b/f", "/b"), ("/f", "/b/in"), ("/hook", "/b/x"),
                               ("/b/in", "/f"), ("/b", "/b/in"), ("/b/in", "/a"), ("/b/f", "/b/f")):
                if which == "/" and one.startswith("/b/") and other.startswith("/b/"):
                    continue
                self.no_deed(house, "kept", move, "carl", one, other)
            self.no_deed(house, "kept", move, "carl", "/b/f" if which == "/b" else "/f", "/hook/x")

    def test_a_covered_folders_rights_are_no_matter(self):
        house = moving_house()
        make_file(house, "ann", "/hook/f", "")
        take(house, "ann", "wood")
        set_rights(house, "ann", "/hook", "w", "w")
        self.no_way(house, ("failed", 2, "shut"), move, "ann", "/f", "/hook/f")
        hang(house, "ann", "wood", "/hook")
        move(house, "ann", "/hook/f", "/hook/g")
        self.assertEqual(house.names_in(6), ["g"])


class NothingThere(HouseCase):

    def test_alone(self):
        house = moving_house()
        for other in ("/new", "/a", "/b", "/f", "/l", "/hook", "/a/in/new", "/hook/new"):
            self.no_deed(house, "none", move, "ann", "/none", other)

    def test_a_name_that_was_dropped(self):
        house = moving_house()
        drop(house, "ann", "/f")
        self.no_deed(house, "none", move, "ann", "/f", "/g")


class OfAFolder(HouseCase):
    """Busy, ring, there, busy and full, each two that may be due at once."""

    def test_busy_and_ring_are_never_due_at_once(self):
        # What lies in a covered folder is seen from a root in it alone, and from there its name is not.
        house = moving_house()
        make_folder(house, "ann", "/b/deep", "lgw", "lgw")
        make_folder(house, "ann", "/b/deep/er", "lgw", "lgw")
        set_root(house, "ben", "/b")
        make_tree(house, "ann", "tip")
        hang(house, "ann", "tip", "/b/deep")
        set_rights(house, "ann", "/b/deep", "lgw", "lgw")
        self.no_deed(house, "busy", move, "ben", "/deep", "/new")
        self.no_way(house, ("failed", 2, "none"), move, "ben", "/deep", "/deep/er/new")
        self.no_deed(house, "other", move, "ben", "/deep", "/deep/new")

    def test_busy_ahead_of_there_and_of_the_others(self):
        house = moving_house()
        make_folder(house, "ann", "/c", "lgw", "lgw")
        set_root(house, "ben", "/c")
        for other in ("/f", "/l", "/a", "/b", "/c"):
            self.no_deed(house, "busy", move, "ann", "/hook", other)

    def test_ring_ahead_of_there_busy_and_full(self):
        house = moving_house()
        make_folder(house, "ann", "/a/c", "lgw", "lgw")
        make_folder(house, "ann", "/a/d", "lgw", "lgw")
        make_file(house, "ann", "/a/d/x", "")
        make_file(house, "ann", "/a/f", "")
        set_root(house, "ben", "/a/c")
        for other in ("/a/c", "/a/d", "/a/f", "/a/in", "/a/new"):
            self.no_deed(house, "ring", move, "ann", "/a", other)

    def test_done_where_none_is_due(self):
        self.assertEqual(outcome(move, moving_house(), "ben", "/a", "/b/a"), ("told", None))


if __name__ == "__main__":
    unittest.main()
