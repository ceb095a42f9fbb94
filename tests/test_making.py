"""Point 22: the deeds that make, name, drop, read and write things, done and refused."""

import unittest

from houses import HouseCase, outcome, picture
from leadnames.errors import NoThing
from leadnames.hanging import hang, make_tree, set_root, stand, take
from leadnames.house import House
from leadnames.making import drop, look, make_file, make_folder, make_lead, name_file, read, set_rights, write
from leadnames.moving import move
from leadnames.places import tree_of
from leadnames.walks import walk

EIGHT = ("", "l", "g", "w", "lg", "lw", "gw", "lgw")


def shared_house():
    """Askers ann and ben; the root is ann's, and all may do all in it."""
    house = House("ann")
    house.enroll("ben")
    set_rights(house, "ann", "/", "lgw", "lgw")
    return house


def made(number, place, *thing):
    """What a picture has of a new thing."""
    return {("thing", number): thing, ("places", number): [place], ("names", number): {}, "many": number + 1}


class MakeFolder(HouseCase):

    def test_done(self):
        house = shared_house()
        told, changes = self.done(house, make_folder, "ben", "/a", "lg", "w")
        self.assertEqual(told, 1)
        self.assertEqual(changes, made(1, (0, "a"), "folder", "ben", ("lg", "w"), "") | {("names", 0): {"a": 1}})

    def test_rights_left_out(self):
        house = shared_house()
        self.assertEqual(house.rights_of(make_folder(house, "ann", "/a")), ("lgw", ""))
        self.assertEqual(house.rights_of(make_folder(house, "ann", "/b", "g")), ("g", ""))
        self.assertEqual(house.rights_of(make_folder(house, "ann", "/c", rest="lg")), ("lgw", "lg"))
        self.assertEqual(house.rights_of(make_folder(house, "ann", "/d", mine="w")), ("w", ""))
        self.assertEqual(house.rights_of(make_folder(house, "ann", "/e", "l", rest="w")), ("l", "w"))
        self.assertEqual(house.rights_of(make_folder(house, "ann", "/f", rest="l", mine="w")), ("w", "l"))
        self.assertEqual(house.rights_of(make_folder(house, "ann", "/g", "w", "l")), ("w", "l"))

    def test_all_rights(self):
        house = shared_house()
        for mine in EIGHT:
            for rest in EIGHT:
                number = make_folder(house, "ben", "/a", mine, rest)
                self.assertEqual(house.rights_of(number), (mine, rest))
                for right in "lgw":
                    self.assertEqual(house.may("ben", number, right), right in mine)
                    self.assertEqual(house.may("ann", number, right), right in rest)
                drop(house, "ann", "/a")

    def test_in_a_folder_in_a_folder(self):
        house = shared_house()
        make_folder(house, "ann", "/a")
        told, changes = self.done(house, make_folder, "ann", "a/../a/./b")
        self.assertEqual(told, 2)
        self.assertEqual(changes, made(2, (1, "b"), "folder", "ann", ("lgw", ""), "") | {("names", 1): {"b": 2}})


class MakeFile(HouseCase):

    def test_done(self):
        house = shared_house()
        told, changes = self.done(house, make_file, "ben", "/a", " some  text ", "lg", "w")
        self.assertEqual(told, 1)
        self.assertEqual(changes, made(1, (0, "a"), "file", "ben", ("lg", "w"), " some  text ")
                         | {("names", 0): {"a": 1}})

    def test_rights_left_out(self):
        house = shared_house()
        self.assertEqual(house.rights_of(make_file(house, "ann", "/a", "")), ("lgw", ""))
        self.assertEqual(house.rights_of(make_file(house, "ann", "/b", "", "g")), ("g", ""))
        self.assertEqual(house.rights_of(make_file(house, "ann", "/c", "", rest="lg")), ("lgw", "lg"))
        self.assertEqual(house.rights_of(make_file(house, "ann", "/d", "", mine="w")), ("w", ""))
        self.assertEqual(house.rights_of(make_file(house, "ann", "/e", "", rest="l", mine="w")), ("w", "l"))

    def test_a_text_like_rights_or_a_path(self):
        house = shared_house()
        for number, text in enumerate(("lgw", "/a", "-", "\\", "a" * 60)):
            make_file(house, "ann", "/a", text)
            self.assertEqual(read(house, "ann", "/a"), text)
            drop(house, "ann", "/a")


class MakeLead(HouseCase):

    def test_done(self):
        house = shared_house()
        told, changes = self.done(house, make_lead, "ben", "/a", "..//a/./")
        self.assertEqual(told, 1)
        self.assertEqual(changes, made(1, (0, "a"), "lead", "ben", ("", ""), "..//a/./") | {("names", 0): {"a": 1}})

    def test_where_it_leads_is_no_matter(self):
        house = shared_house()
        for number, path in enumerate(("/", ".", "..", "none", "/none/none", "lead", "/lead/", "a/" * 60)):
            self.assertEqual(make_lead(house, "ann", "/lead", path), number + 1)
            self.assertEqual(house.text_of(number + 1), path)
            drop(house, "ann", "lead")


class Numbers(HouseCase):

    def test_in_the_order_in_which_they_are_made(self):
        house = shared_house()
        self.assertEqual(make_folder(house, "ann", "/a"), 1)
        self.assertEqual(make_file(house, "ben", "/b", ""), 2)
        self.assertEqual(make_lead(house, "ann", "/c", "/"), 3)
        self.assertEqual(make_tree(house, "ben", "wood"), 4)
        self.assertEqual(make_file(house, "ann", "/a/d", ""), 5)
        self.assertEqual(house.many(), 6)

    def test_what_is_refused_uses_none(self):
        house = shared_house()
        make_folder(house, "ann", "/a", "lg", "lg")
        for deed in (make_folder, make_file, make_lead):
            extra = () if deed is make_folder else ("/",)
            self.no_deed(house, "there", deed, "ann", "/a", *extra)
            self.no_deed(house, "kept", deed, "ann", "/a/b", *extra)
            self.no_deed(house, "dots", deed, "ann", "/", *extra)
            self.no_way(house, ("failed", 1, "none"), deed, "ann", "/b/b", *extra)
        self.assertEqual(make_folder(house, "ann", "/b"), 2)

    def test_none_is_used_again(self):
        house = shared_house()
        for number in range(1, 6):
            self.assertEqual(make_folder(house, "ann", "/a"), number)
            drop(house, "ann", "/a")
        self.assertEqual(house.many(), 6)
        for number in range(1, 6):
            self.assertEqual((house.kind_of(number), house.owner_of(number)), ("folder", "ann"))
            self.assertEqual(house.places_of(number), [])
        self.assertRaises(NoThing, house.kind_of, 6)


class Making(HouseCase):
    """What the three have in common."""

    MAKING = [
        ("folder", lambda house, asker, path: make_folder(house, asker, path)),
        ("file", lambda house, asker, path: make_file(house, asker, path, "text")),
        ("lead", lambda house, asker, path: make_lead(house, asker, path, "/")),
    ]

    def test_kept(self):
        for kind, deed in self.MAKING:
            for mine in EIGHT:
                for rest in EIGHT:
                    house = shared_house()
                    make_folder(house, "ann", "/a", mine, rest)
                    for asker, rights in (("ann", mine), ("ben", rest)):
                        if "g" not in rights:
                            self.no_way(house, ("failed", 2, "shut"), deed, asker, "/a/" + asker)
                        elif "w" not in rights:
                            self.no_deed(house, "kept", deed, asker, "/a/" + asker)
                        else:
                            number = deed(house, asker, "/a/" + asker)
                            self.assertEqual((house.kind_of(number), house.owner_of(number)), (kind, asker))

    def test_the_first_root_is_kept_from_others(self):
        for kind, deed in self.MAKING:
            house = House("ann")
            house.enroll("ben")
            self.no_deed(house, "kept", deed, "ben", "/a")
            self.assertEqual(deed(house, "ann", "/a"), 1)

    def test_there(self):
        for kind, deed in self.MAKING:
            for other, former in self.MAKING:
                house = shared_house()
                former(house, "ben", "/a")
                self.no_deed(house, "there", deed, "ann", "/a")
                self.no_deed(house, "there", deed, "ben", "a")

    def test_kept_ahead_of_there(self):
        for kind, deed in self.MAKING:
            for other, former in self.MAKING:
                house = House("ann")
                house.enroll("ben")
                former(house, "ann", "/a")
                self.no_deed(house, "kept", deed, "ben", "/a")

    def test_of_a_root_in_itself(self):
        for kind, deed in self.MAKING:
            house = shared_house()
            make_folder(house, "ann", "/a", "lgw", "lgw")
            set_root(house, "ben", "/a")
            number = deed(house, "ben", "/b")
            self.assertEqual(house.places_of(number), [(1, "b")])


def named_house():
    """File 1 at /f, folder 2 at /a, tree wood with root 3 over folder 4 at /hook, all open to all."""
    house = shared_house()
    make_file(house, "ann", "/f", "text", "lgw", "lgw")
    make_folder(house, "ann", "/a", "lgw", "lgw")
    make_tree(house, "ann", "wood")
    make_folder(house, "ann", "/hook", "lgw", "lgw")
    hang(house, "ann", "wood", "/hook")
    set_rights(house, "ann", "/hook", "lgw", "lgw")
    return house


class NameFile(HouseCase):

    def test_done(self):
        house = named_house()
        told, changes = self.done(house, name_file, "ben", "/f", "/a/g")
        self.assertIsNone(told)
        self.assertEqual(changes, {("names", 2): {"g": 1}, ("places", 1): [(0, "f"), (2, "g")]})
        self.assertEqual(house.place_of(1), (0, "f"))

    def test_one_thing_by_all_names(self):
        house = named_house()
        name_file(house, "ann", "/f", "/a/g")
        name_file(house, "ben", "/a/g", "/b")
        name_file(house, "ben", "/b", "/a/f")
        self.assertEqual(house.places_of(1), [(0, "b"), (0, "f"), (2, "f"), (2, "g")])
        for path in ("/f", "/b", "/a/f", "/a/g"):
            self.assertEqual((walk(house, "ann", path).number, walk(house, "ann", path).way), (1, path))
        write(house, "ben", "/a/g", "new")
        set_rights(house, "ann", "/b", "lw", "l")
        for path in ("/f", "/b", "/a/f", "/a/g"):
            self.assertEqual(read(house, "ben", path), "new")
            self.no_deed(house, "write", write, "ben", path, "newer")
        self.assertEqual(house.many(), 5)

    def test_the_rights_and_the_owner_of_the_file_are_no_matter(self):
        house = named_house()
        set_rights(house, "ann", "/f", "", "")
        name_file(house, "ben", "/f", "/g")
        self.assertEqual(house.places_of(1), [(0, "f"), (0, "g")])
        self.assertEqual(house.owner_of(1), "ann")

    def test_by_a_lead(self):
        house = named_house()
        lead = make_lead(house, "ann", "/l", "f")
        name_file(house, "ann", "/l", "/g")
        self.assertEqual(house.places_of(1), [(0, "f"), (0, "g")])
        self.assertEqual(house.places_of(lead), [(0, "l")])

    def test_in_a_tree_that_is_hung(self):
        house = named_house()
        number = make_file(house, "ann", "/hook/f", "")
        name_file(house, "ann", "/hook/f", "/hook/g")
        self.assertEqual(house.places_of(number), [(3, "f"), (3, "g")])
        self.no_deed(house, "other", name_file, "ann", "/hook/f", "/g")
        self.no_deed(house, "other", name_file, "ann", "/f", "/hook/h")
        take(house, "ann", "wood")
        name_file(house, "ann", "/f", "/hook/h")
        self.assertEqual(house.places_of(1), [(0, "f"), (4, "h")])

    def test_reasons_one_and_several_at_once(self):
        order = ("folder", "kept", "other", "there")
        for chosen in range(1, 16):
            due = [reason for place, reason in enumerate(order) if chosen & (1 << place)]
            house = named_house()
            where = "/hook" if "other" in due else "/a"
            if "there" in due:
                make_lead(house, "ann", where + "/x", "/")
            if "kept" in due:
                set_rights(house, "ann", where, "lgw", "lg")
            first = "/" if "folder" in due else "/f"
            with self.subTest(due=due):
                self.no_deed(house, due[0], name_file, "ben", first, where + "/x")
        self.assertEqual(outcome(name_file, named_house(), "ben", "/f", "/a/x"), ("told", None))

    def test_there_where_it_is_the_same_file(self):
        house = named_house()
        self.no_deed(house, "there", name_file, "ann", "/f", "/f")
        name_file(house, "ann", "/f", "/g")
        self.no_deed(house, "there", name_file, "ann", "/f", "/g")

    def test_kept_is_asked_of_the_seats_folder_alone(self):
        house = named_house()
        make_folder(house, "ann", "/from", "lgw", "g")
        number = make_file(house, "ann", "/from/f", "")
        name_file(house, "ben", "/from/f", "/a/f")
        self.assertEqual(house.places_of(number), [(2, "f"), (5, "f")])

    def test_a_covered_seat_is_of_its_own_tree(self):
        house = named_house()
        number = make_file(house, "ann", "/hook/f", "")
        stand(house, "ben", "/hook")
        name_file(house, "ben", "f", "g")
        self.assertEqual(tree_of(house, number), "wood")
        self.no_deed(house, "other", name_file, "ben", "f", "../g")


class Drop(HouseCase):

    def test_a_folder_a_file_and_a_lead(self):
        for kind, deed in Making.MAKING:
            house = shared_house()
            number = deed(house, "ann", "/a")
            told, changes = self.done(house, drop, "ben", "/a")
            self.assertIsNone(told)
            self.assertEqual(changes, {("names", 0): {}, ("places", number): []})
            self.assertIsNone(house.child(0, "a"))
            self.assertIsNone(house.place_of(number))
            self.assertIsNone(tree_of(house, number))

    def test_a_name_made_anew_has_a_new_number(self):
        house = shared_house()
        make_file(house, "ann", "/a", "old")
        drop(house, "ann", "/a")
        self.assertEqual(make_file(house, "ben", "/a", "new"), 2)
        self.assertEqual(read(house, "ben", "/a"), "new")
        self.assertEqual((house.text_of(1), house.owner_of(1), house.rights_of(1)), ("old", "ann", ("lgw", "")))

    def test_one_of_several_names(self):
        house = named_house()
        name_file(house, "ann", "/f", "/a/g")
        name_file(house, "ann", "/f", "/h")
        told, changes = self.done(house, drop, "ben", "/f")
        self.assertEqual(changes, {("names", 0): {"a": 2, "h": 1, "hook": 4}, ("places", 1): [(0, "h"), (2, "g")]})
        self.assertEqual(house.place_of(1), (0, "h"))
        self.assertEqual(read(house, "ben", "/a/g"), "text")
        drop(house, "ben", "/h")
        drop(house, "ben", "/a/g")
        self.assertEqual(house.places_of(1), [])

    def test_a_lead_and_not_what_it_leads_to(self):
        house = named_house()
        make_lead(house, "ann", "/l", "f")
        drop(house, "ann", "/l")
        self.assertEqual(house.names_in(0), ["a", "f", "hook"])

    def test_rights_and_owner_of_what_is_dropped_are_no_matter(self):
        house = shared_house()
        make_folder(house, "ann", "/a", "", "")
        make_file(house, "ann", "/b", "", "", "")
        drop(house, "ben", "/a")
        drop(house, "ben", "/b")
        self.assertEqual(house.names_in(0), [])

    def test_kept(self):
        for mine in EIGHT:
            for rest in EIGHT:
                house = shared_house()
                make_folder(house, "ann", "/a", "lgw", "lgw")
                make_folder(house, "ann", "/a/ann")
                make_folder(house, "ann", "/a/ben")
                set_rights(house, "ann", "/a", mine, rest)
                for asker, rights in (("ann", mine), ("ben", rest)):
                    path = "/a/" + asker
                    if "g" not in rights:
                        self.no_way(house, ("failed", 2, "shut"), drop, asker, path)
                    elif "w" not in rights:
                        self.no_deed(house, "kept", drop, asker, path)
                    else:
                        self.assertIsNone(drop(house, asker, path))
                        self.assertIsNone(house.child(1, asker))

    def test_none(self):
        house = named_house()
        self.no_deed(house, "none", drop, "ann", "/none")
        self.no_deed(house, "none", drop, "ben", "a/none")
        drop(house, "ann", "/f")
        self.no_deed(house, "none", drop, "ann", "/f")

    def test_kept_ahead_of_none(self):
        house = named_house()
        set_rights(house, "ann", "/", "lg", "lg")
        self.no_deed(house, "kept", drop, "ann", "/none")
        self.no_deed(house, "kept", drop, "ben", "/none")

    def test_covered(self):
        house = named_house()
        self.no_deed(house, "busy", drop, "ann", "/hook")
        take(house, "ann", "wood")
        self.assertEqual(self.done(house, drop, "ann", "/hook")[1],
                         {("names", 0): {"a": 2, "f": 1}, ("places", 4): []})

    def test_a_root(self):
        for asker in ("ann", "ben"):
            house = named_house()
            set_root(house, asker, "/a")
            other = "ben" if asker == "ann" else "ann"
            self.no_deed(house, "busy", drop, other, "/a")
            house.enroll("carl")
            self.no_deed(house, "busy", drop, "carl", "/a")
        house = named_house()
        make_folder(house, "ann", "/a/b", "lgw", "lgw")
        set_root(house, "ben", "/a")
        set_root(house, "ben", "/b")
        drop(house, "ann", "/f")
        self.no_deed(house, "full", drop, "ann", "/a")

    def test_a_standing(self):
        house = named_house()
        stand(house, "ben", "/a")
        told, changes = self.done(house, drop, "ann", "/a")
        self.assertEqual(changes, {("names", 0): {"f": 1, "hook": 4}, ("places", 2): []})
        self.assertEqual(house.standing_of("ben"), 2)
        self.no_way(house, ("failed", 0, "outside"), make_folder, "ben", "x")
        self.no_way(house, ("failed", 0, "outside"), drop, "ben", "../f")
        self.assertEqual(make_folder(house, "ben", "/x"), 5)

    def test_full(self):
        for kind, deed in Making.MAKING:
            house = named_house()
            deed(house, "ann", "/a/b")
            self.no_deed(house, "full", drop, "ann", "/a")
            drop(house, "ann", "/a/b")
            drop(house, "ann", "/a")
            self.assertEqual(house.names_in(0), ["f", "hook"])

    def test_what_lies_in_the_tree_over_it_is_not_in_it(self):
        house = named_house()
        make_folder(house, "ann", "/hook/b")
        self.no_deed(house, "busy", drop, "ann", "/hook")
        take(house, "ann", "wood")
        drop(house, "ann", "/hook")
        self.assertEqual(house.names_in(0), ["a", "f"])

    def test_several_at_once(self):
        for covered in (True, False):
            for rooted in (True, False):
                for full in (True, False):
                    for kept in (True, False):
                        house = shared_house()
                        make_folder(house, "ann", "/a", "lgw", "lgw")
                        if full:
                            make_file(house, "ann", "/a/b", "")
                        if rooted:
                            set_root(house, "ben", "/a")
                        if covered:
                            make_tree(house, "ann", "wood")
                            hang(house, "ann", "wood", "/a")
                        if kept:
                            set_rights(house, "ann", "/", "lg", "lg")
                        due = (["kept"] if kept else []) + (["busy"] if covered or rooted else []) \
                            + (["full"] if full else [])
                        with self.subTest(due=due):
                            if due:
                                self.no_deed(house, due[0], drop, "ann", "/a")
                            else:
                                self.assertIsNone(drop(house, "ann", "/a"))


class SetRights(HouseCase):

    def test_done(self):
        for mine in EIGHT:
            for rest in EIGHT:
                for path, number, kind in (("/a", 1, "folder"), ("/f", 2, "file"), ("/l", 2, "file"),
                                           ("/", 0, "folder")):
                    house = shared_house()
                    make_folder(house, "ann", "/a", "g", "g")
                    make_file(house, "ann", "/f", "text", "g", "g")
                    make_lead(house, "ann", "/l", "f")
                    set_rights(house, "ann", "/", "gw", "g")
                    told, changes = self.done(house, set_rights, "ann", path, mine, rest)
                    self.assertIsNone(told)
                    former = ("gw", "g") if path == "/" else ("g", "g")
                    thing = (kind, "ann", (mine, rest), "text" if kind == "file" else "")
                    self.assertEqual(changes, {} if former == (mine, rest) else {("thing", number): thing})

    def test_mine(self):
        house = shared_house()
        make_folder(house, "ann", "/a", "lgw", "lgw")
        make_file(house, "ben", "/f", "text", "lgw", "lgw")
        make_lead(house, "ben", "/l", "a")
        self.no_deed(house, "mine", set_rights, "ben", "/a", "", "")
        self.no_deed(house, "mine", set_rights, "ann", "/f", "", "")
        self.no_deed(house, "mine", set_rights, "ben", "/", "lgw", "lgw")
        self.no_deed(house, "mine", set_rights, "ben", "/l", "lgw", "lgw")
        self.assertIsNone(set_rights(house, "ann", "/l", "g", "g"))
        self.assertEqual(house.rights_of(1), ("g", "g"))

    def test_its_own_rights_are_no_matter(self):
        house = shared_house()
        make_folder(house, "ann", "/a", "", "")
        make_file(house, "ann", "/f", "", "", "")
        set_rights(house, "ann", "/a", "g", "l")
        set_rights(house, "ann", "/f", "w", "l")
        self.assertEqual((house.rights_of(1), house.rights_of(2)), (("g", "l"), ("w", "l")))
        set_rights(house, "ann", "/a", "", "")
        self.no_way(house, ("failed", 2, "shut"), set_rights, "ann", "/a/", "lgw", "lgw")

    def test_of_the_top(self):
        house = named_house()
        set_rights(house, "ann", "/hook", "g", "g")
        self.assertEqual((house.rights_of(3), house.rights_of(4)), (("g", "g"), ("lgw", "lgw")))

    def test_what_may_be_done_changes_at_once(self):
        house = shared_house()
        make_folder(house, "ann", "/a", "lgw", "lgw")
        make_folder(house, "ben", "/a/b")
        set_rights(house, "ann", "/a", "lgw", "lw")
        self.no_way(house, ("failed", 2, "shut"), look, "ben", "/a/b")
        set_rights(house, "ann", "/a", "lgw", "g")
        self.assertEqual(look(house, "ben", "/a/b"), [])


class Read(HouseCase):

    def test_rights(self):
        for mine in EIGHT:
            for rest in EIGHT:
                house = shared_house()
                make_file(house, "ann", "/f", " a  text ", mine, rest)
                for asker, rights in (("ann", mine), ("ben", rest)):
                    if "l" in rights:
                        self.assertEqual(self.done(house, read, asker, "/f"), (" a  text ", {}))
                    else:
                        self.no_deed(house, "look", read, asker, "/f")

    def test_folder(self):
        house = named_house()
        make_folder(house, "ann", "/b", "", "")
        make_lead(house, "ann", "/l", "/a")
        for asker in ("ann", "ben"):
            for path in ("/", "/a", "/a/", "a/..", "/hook", "/b", "/l"):
                self.no_deed(house, "folder", read, asker, path)

    def test_a_file_with_a_slash_behind_it(self):
        self.no_way(named_house(), ("failed", 2, "flat"), read, "ann", "/f/")
        self.no_way(named_house(), ("failed", 2, "flat"), write, "ann", "/f/.", "text")

    def test_the_folders_right_to_look_is_no_matter(self):
        house = shared_house()
        make_folder(house, "ann", "/a", "lgw", "g")
        make_file(house, "ann", "/a/f", "text", "", "l")
        self.assertEqual(read(house, "ben", "/a/f"), "text")
        self.no_deed(house, "look", read, "ann", "/a/f")


class Write(HouseCase):

    def test_rights(self):
        for mine in EIGHT:
            for rest in EIGHT:
                house = shared_house()
                make_file(house, "ann", "/f", "old", mine, rest)
                for asker, rights in (("ann", mine), ("ben", rest)):
                    if "w" in rights:
                        told, changes = self.done(house, write, asker, "/f", " " + asker)
                        self.assertIsNone(told)
                        self.assertEqual(changes, {("thing", 1): ("file", "ann", (mine, rest), " " + asker)})
                    else:
                        self.no_deed(house, "write", write, asker, "/f", "new")

    def test_folder(self):
        house = named_house()
        make_folder(house, "ann", "/b", "", "")
        for asker in ("ann", "ben"):
            for path in ("/", "/a", "/a/", "a/..", "/hook", "/b"):
                self.no_deed(house, "folder", write, asker, path, "text")

    def test_the_same_text(self):
        house = named_house()
        self.assertEqual(self.done(house, write, "ben", "/f", "text"), (None, {}))

    def test_the_folders_right_to_write_is_no_matter(self):
        house = House("ann")
        house.enroll("ben")
        make_file(house, "ann", "/f", "old", "", "w")
        write(house, "ben", "/f", "new")
        self.assertEqual(house.text_of(1), "new")


class Look(HouseCase):

    def test_rights(self):
        for mine in EIGHT:
            for rest in EIGHT:
                house = shared_house()
                make_folder(house, "ann", "/a", "lgw", "")
                for name in ("b", "ab", "a"):
                    make_folder(house, "ann", "/a/" + name)
                set_rights(house, "ann", "/a", mine, rest)
                for asker, rights in (("ann", mine), ("ben", rest)):
                    if "l" in rights:
                        self.assertEqual(self.done(house, look, asker, "/a"), (["a", "ab", "b"], {}))
                    else:
                        self.no_deed(house, "look", look, asker, "/a")

    def test_file(self):
        house = named_house()
        make_file(house, "ann", "/g", "text", "", "")
        make_lead(house, "ann", "/l", "/g")
        for asker in ("ann", "ben"):
            for path in ("/f", "/g", "/l", "a/../f"):
                self.no_deed(house, "file", look, asker, path)

    def test_a_new_list_each_time(self):
        house = named_house()
        look(house, "ann", "/").append("more")
        look(house, "ann", "/").clear()
        self.assertEqual(look(house, "ann", "/"), ["a", "f", "hook"])
        self.assertEqual(house.names_in(0), ["a", "f", "hook"])

    def test_of_the_top(self):
        house = named_house()
        make_folder(house, "ann", "/hook/in")
        self.assertEqual(look(house, "ann", "/hook"), ["in"])
        take(house, "ann", "wood")
        self.assertEqual(look(house, "ann", "/hook"), [])

    def test_leads_and_files_among_the_names(self):
        house = named_house()
        make_lead(house, "ann", "/a/l", "/none")
        make_file(house, "ann", "/a/f", "")
        self.assertEqual(look(house, "ben", "/a"), ["f", "l"])


class Refused(HouseCase):

    def test_a_deed_that_is_refused_may_be_done_later(self):
        house = House("ann")
        house.enroll("ben")
        self.no_deed(house, "kept", make_folder, "ben", "/a")
        set_rights(house, "ann", "/", "lgw", "lgw")
        self.assertEqual(make_folder(house, "ben", "/a"), 1)
        self.no_deed(house, "none", move, "ben", "/b", "/c")
        make_file(house, "ben", "/b", "")
        move(house, "ben", "/b", "/c")
        self.assertEqual(picture(house)[("names", 0)], {"a": 1, "c": 2})


if __name__ == "__main__":
    unittest.main()
