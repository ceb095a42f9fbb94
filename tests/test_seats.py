"""Point 21: seats, at each deed that has one."""

import unittest

from houses import HouseCase, outcome, shown
from leadnames.errors import NoWay
from leadnames.hanging import hang, make_tree, set_root, stand, take
from leadnames.house import House
from leadnames.making import drop, look, make_file, make_folder, make_lead, name_file, read, set_rights, write
from leadnames.moving import move
from leadnames.walks import walk

SEATED = [
    ("make_folder", lambda house, asker, path: make_folder(house, asker, path)),
    ("make_file", lambda house, asker, path: make_file(house, asker, path, "text")),
    ("make_lead", lambda house, asker, path: make_lead(house, asker, path, "/a")),
    ("name_file", lambda house, asker, path: name_file(house, asker, "/g", path)),
    ("drop", lambda house, asker, path: drop(house, asker, path)),
    ("move", lambda house, asker, path: move(house, asker, path, "/open/new")),
    ("move to", lambda house, asker, path: move(house, asker, "/g", path)),
]

WALKED = [
    ("set_rights", lambda house, asker, path: set_rights(house, asker, path, "lgw", "lgw")),
    ("read", lambda house, asker, path: read(house, asker, path)),
    ("write", lambda house, asker, path: write(house, asker, path, "text")),
    ("look", lambda house, asker, path: look(house, asker, path)),
    ("hang", lambda house, asker, path: hang(house, asker, "free", path)),
    ("stand", lambda house, asker, path: stand(house, asker, path)),
    ("set_root", lambda house, asker, path: set_root(house, asker, path)),
    ("name_file", lambda house, asker, path: name_file(house, asker, path, "/open/new")),
]

DOTS = ["/", "//", "///", ".", "..", "./", "../", "/.", "/..", "/../", "a/", "/a/", "a//", "/a/b/", "a/.", "a/..",
        "a/b/.", "a/b/..", "f/", "f/..", "f/.", "none/..", "none/.", "none/none/", "shut/..", "shut/.", "loop/..",
        "loop/", "ping/.", "many/.", "new/", "a/new/", "/two/.."]


def seat_house():
    """Folders /a 1 and /a/b 2, files /f 3 and /g 4, /shut 5 in which nobody may go, /open 6, and leads."""
    house = House("ann")
    house.enroll("ben")
    make_folder(house, "ann", "/a", "lgw", "lgw")
    make_folder(house, "ann", "/a/b", "lgw", "lgw")
    make_file(house, "ann", "/f", "text", "lgw", "lgw")
    make_file(house, "ann", "/g", "text", "lgw", "lgw")
    make_folder(house, "ann", "/shut", "lw", "lw")
    make_folder(house, "ann", "/open", "lgw", "lgw")
    make_lead(house, "ann", "/loop", "loop")
    make_lead(house, "ann", "/ping", "a/../pong")
    make_lead(house, "ann", "/pong", "./ping")
    make_lead(house, "ann", "/two", "a/b")
    make_lead(house, "ann", "/a/up", "/two/../b/.")
    make_lead(house, "ann", "/tof", "./f")
    make_lead(house, "ann", "/toshut", "a/../shut")
    make_lead(house, "ann", "/here", "/")
    make_lead(house, "ann", "/tonone", "a/none/b")
    set_rights(house, "ann", "/", "lgw", "lgw")
    make_tree(house, "ann", "free")
    return house


# Where a walk of all parts but the last one fails, or the step behind it.
FAILING = [
    ("none/x", ("failed", 1, "none")),
    ("/none/x", ("failed", 1, "none")),
    ("a/none/x", ("failed", 2, "none")),
    ("a/b/none/x", ("failed", 3, "none")),
    ("a//./none//x", ("failed", 3, "none")),
    ("tonone/x", ("failed", 3, "none")),
    ("f/x", ("failed", 2, "flat")),
    ("/./f/x", ("failed", 3, "flat")),
    ("f/../x", ("failed", 2, "flat")),
    ("f/x/y", ("failed", 2, "flat")),
    ("tof/x", ("failed", 4, "flat")),
    ("here/tof/x", ("failed", 5, "flat")),
    ("shut/x", ("failed", 2, "shut")),
    ("/shut/x", ("failed", 2, "shut")),
    ("shut/./x", ("failed", 2, "shut")),
    ("a/../shut/x", ("failed", 4, "shut")),
    ("toshut/x", ("failed", 5, "shut")),
    ("here/here/toshut/x", ("failed", 7, "shut")),
    ("loop/x", ("ring", [7])),
    ("a/../loop/x", ("ring", [7])),
    ("ping/x", ("ring", [8, 9])),
    ("pong/x", ("ring", [8, 9])),
    ("/".join(["here"] * 41) + "/x", ("failed", 41, "many")),
]

# Paths of seats and the seats, each with a name that stands for nothing.
SEATS = [
    ("x", 0), ("/x", 0), ("./x", 0), ("../x", 0), ("a/x", 1), ("/a/x", 1), ("a//x", 1), ("a/./x", 1), ("a/b/x", 2),
    ("a/b/../x", 1), ("two/x", 2), ("a/up/x", 2), ("a/up/../x", 1), ("here/x", 0), ("a/b/../../x", 0),
    ("/".join(["here"] * 40) + "/x", 0),
]


class Dots(HouseCase):

    def test_ahead_of_the_walk(self):
        for label, deed in SEATED:
            house = seat_house()
            for asker in ("ann", "ben"):
                for path in DOTS:
                    with self.subTest(deed=label, path=path):
                        self.no_deed(house, "dots", deed, asker, path)

    def test_ahead_of_a_standing_outside(self):
        for label, deed in SEATED:
            house = outside_house()
            for path in ("a/..", ".", "none/", "x/."):
                self.no_deed(house, "dots", deed, "ben", path)
            self.no_way(house, ("failed", 0, "outside"), deed, "ben", "x")
            self.no_way(house, ("failed", 0, "outside"), deed, "ben", "a/none/x")

    def test_of_either_path_ahead_of_both_walks(self):
        house = seat_house()
        for dotted in DOTS:
            for other in ("none/x", "f/x", "shut/x", "loop/x", "g", "x", "a"):
                self.no_deed(house, "dots", move, "ann", dotted, other)
                self.no_deed(house, "dots", move, "ann", other, dotted)
                self.no_deed(house, "dots", name_file, "ann", other, dotted)
        self.no_deed(house, "dots", move, "ann", ".", "..")

    def test_the_first_path_of_name_file_is_walked(self):
        house = seat_house()
        make_lead(house, "ann", "/a/tog", "../g")
        for path, name in (("/g", "one"), ("./g", "two"), ("a/../g", "three"), ("a/tog", "four")):
            self.assertIsNone(name_file(house, "ann", path, "/open/" + name))
        self.assertEqual(len(house.places_of(4)), 5)
        self.no_deed(house, "folder", name_file, "ann", "a/..", "/open/x")
        self.no_way(house, ("failed", 2, "flat"), name_file, "ann", "g/", "/open/x")


def outside_house():
    """Of ben the standing is the root of a tree that was taken down."""
    house = seat_house()
    hang(house, "ann", "free", "/open")
    stand(house, "ben", "/open")
    take(house, "ann", "free")
    return house


class NoWays(HouseCase):

    def test_each(self):
        for label, deed in SEATED:
            house = seat_house()
            for asker in ("ann", "ben"):
                for path, told in FAILING:
                    with self.subTest(deed=label, path=path):
                        self.no_way(house, told, deed, asker, path)

    def test_the_walk_of_the_other_parts_tells_likewise(self):
        house = seat_house()
        for path, told in FAILING:
            ahead = walk(house, "ann", path.rpartition("/")[0] or "/")
            if shown(ahead)[0] != "found":
                self.assertEqual(shown(ahead), told)
            else:
                self.assertIn(told[2], ("flat", "shut"))

    def test_of_the_first_path_ahead_of_that_of_the_second(self):
        house = seat_house()
        for first, told in FAILING:
            for second, later in FAILING:
                self.no_way(house, told, move, "ann", first, second)
                self.no_way(house, shown(walk(house, "ann", first)), name_file, "ann", first, second)

    def test_ahead_of_each_reason(self):
        house = seat_house()
        for path, told in FAILING:
            for other in ("none", "a/x", "f", "a", "loop"):
                self.no_way(house, told, move, "ann", path, other)
                self.no_way(house, told, move, "ann", other, path)
            for first in ("/", "a", "/g"):
                self.no_way(house, told, name_file, "ann", first, path)

    def test_told_is_a_new_one_each_time(self):
        house = seat_house()
        for path in ("ping/x", "none/x"):
            with self.assertRaises(NoWay) as one:
                make_folder(house, "ann", path)
            with self.assertRaises(NoWay) as other:
                make_folder(house, "ann", path)
            self.assertIsNot(one.exception.told, other.exception.told)
        with self.assertRaises(NoWay) as one:
            drop(house, "ann", "ping/x")
        one.exception.told.leads.append(99)
        self.no_way(house, ("ring", [8, 9]), drop, "ann", "ping/x")

    def test_shut_to_others_alone(self):
        house = seat_house()
        make_folder(house, "ann", "/mine", "lgw", "lw")
        make_folder(house, "ben", "/theirs", "lw", "g")
        for label, deed in SEATED:
            self.no_way(house, ("failed", 2, "shut"), deed, "ben", "mine/x")
            self.no_way(house, ("failed", 2, "shut"), deed, "ben", "theirs/x")
        self.assertEqual(outcome(make_folder, house, "ann", "mine/x")[0], "told")
        self.no_deed(house, "kept", make_folder, "ann", "theirs/x")

    def test_the_root_itself_may_be_shut(self):
        house = seat_house()
        set_rights(house, "ann", "/", "lw", "lgw")
        for label, deed in SEATED:
            self.assertEqual(outcome(deed, house, "ann", "/x"), ("NoWay", ("failed", 1, "shut")))
            self.assertEqual(outcome(deed, house, "ann", "a/x"), ("NoWay", ("failed", 1, "shut")))


class Walked(HouseCase):

    def test_where_they_find_nothing(self):
        for label, deed in WALKED:
            house = seat_house()
            for asker in ("ann", "ben"):
                for path, told in FAILING:
                    told = shown(walk(house, asker, path))
                    if told[0] != "found":
                        with self.subTest(deed=label, path=path):
                            self.no_way(house, told, deed, asker, path)

    def test_leads_at_the_end_are_read(self):
        house = seat_house()
        self.assertEqual(read(house, "ann", "/tof"), "text")
        self.assertEqual(look(house, "ann", "/two"), [])
        self.no_way(house, ("ring", [7]), read, "ann", "/loop")
        write(house, "ann", "/tof", "new")
        self.assertEqual(house.text_of(3), "new")
        set_rights(house, "ann", "/two", "lg", "g")
        self.assertEqual(house.rights_of(2), ("lg", "g"))
        stand(house, "ann", "/two")
        self.assertEqual(house.standing_of("ann"), 2)

    def test_standing_outside(self):
        for label, deed in WALKED:
            self.no_way(outside_house(), ("failed", 0, "outside"), deed, "ben", ".")
            self.no_way(outside_house(), ("failed", 0, "outside"), deed, "ben", "a/b")


class Found(HouseCase):

    def test_the_folder(self):
        for path, folder in SEATS:
            house = seat_house()
            number = make_folder(house, "ann", path)
            self.assertEqual(house.place_of(number), (folder, "x"), path)

    def test_from_the_standing(self):
        for path, folder in (("x", 2), ("/x", 0), ("../x", 1), ("../../x", 0), ("../../../x", 0), ("./x", 2)):
            house = seat_house()
            stand(house, "ben", "/a/b")
            number = make_folder(house, "ben", path)
            self.assertEqual(house.place_of(number), (folder, "x"), path)

    def test_from_a_root_of_its_own(self):
        for path, folder in (("x", 2), ("/x", 1), ("../x", 1), ("../../x", 1), ("/../x", 1), ("b/x", None)):
            house = seat_house()
            set_root(house, "ben", "/a")
            stand(house, "ben", "/b")
            if folder is None:
                self.no_way(house, ("failed", 1, "none"), make_folder, "ben", path)
            else:
                self.assertEqual(house.place_of(make_folder(house, "ben", path)), (folder, "x"), path)

    def test_in_a_tree_that_covers_a_folder(self):
        house = seat_house()
        hang(house, "ann", "free", "/a")
        root = house.tree_root("free")
        number = make_folder(house, "ann", "/a/x")
        self.assertEqual(house.place_of(number), (root, "x"))
        self.no_way(house, ("failed", 2, "none"), make_folder, "ann", "/a/b/x")
        take(house, "ann", "free")
        self.no_way(house, ("failed", 2, "none"), make_folder, "ann", "/a/x/y")
        self.assertEqual(house.names_in(1), ["b", "up"])

    def test_what_the_name_stands_for_is_not_looked_at(self):
        house = seat_house()
        for name in ("a", "f", "shut", "loop", "ping", "two", "tof", "toshut", "tonone", "here"):
            self.no_deed(house, "there", make_folder, "ann", "/" + name)
            self.no_deed(house, "there", make_lead, "ann", name, "/")
        for name in ("shut", "loop", "ping", "tof", "toshut", "tonone", "here", "two"):
            number = house.child(0, name)
            move(house, "ann", "/" + name, "/open/" + name)
            self.assertEqual(house.places_of(number), [(6, name)])
            drop(house, "ann", "/open/" + name)
            self.assertEqual(house.places_of(number), [])
        self.assertEqual(house.names_in(0), ["a", "f", "g", "open", "pong"])
        self.assertEqual(house.names_in(6), [])


if __name__ == "__main__":
    unittest.main()
