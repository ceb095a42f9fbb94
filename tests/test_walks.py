import unittest

from houses import NO_TEXTS, file, folder, hung, lead, nested_house, new_house, picture, shown
from leadnames.errors import NoAsker, NoPath
from leadnames.places import is_seen
from leadnames.walks import Failed, Found, Ring, Told, asked_of, walk

NO_ASKERS = NO_TEXTS + ["", "carl", "main", "Ann", "ann "]
NO_PATHS = NO_TEXTS + ["", "...", "a/...", "a b", "A", "abcdefghi", "a.b", "a\n", "a" * 2001, "/" * 2001]


class WalkCase(unittest.TestCase):

    def check(self, house, path, told, asker="ann", last=True):
        with self.subTest(path=path, asker=asker, last=last):
            self.assertEqual(shown(walk(house, asker, path, last)), told)

    def found(self, house, path, number, way, asker="ann", last=True):
        self.check(house, path, ("found", number, way), asker, last)

    def failed(self, house, path, step, reason, asker="ann", last=True):
        self.check(house, path, ("failed", step, reason), asker, last)

    def ring(self, house, path, leads, asker="ann", last=True):
        self.check(house, path, ("ring", leads), asker, last)

    def asked(self, house, path, folders, asker="ann", last=True):
        with self.subTest(path=path, asker=asker, last=last):
            self.assertEqual(asked_of(house, asker, path, last), folders)


class Classes(unittest.TestCase):

    def test_each_is_told_and_none_is_another(self):
        kinds = (Found, Failed, Ring)
        for kind in kinds:
            self.assertTrue(issubclass(kind, Told))
            for other in kinds:
                self.assertEqual(issubclass(kind, other), kind is other)
        self.assertIs(type(Told()), Told)

    def test_fields(self):
        self.assertEqual((Found(3, "/a").number, Found(3, "/a").way), (3, "/a"))
        self.assertEqual((Failed(2, "shut").step, Failed(2, "shut").reason), (2, "shut"))
        self.assertEqual(Ring([1, 2]).leads, [1, 2])

    def test_a_ring_keeps_a_list_of_its_own(self):
        handed = [1, 2]
        ring = Ring(handed)
        handed.append(3)
        self.assertEqual(ring.leads, [1, 2])


class Names(WalkCase):

    def test_folders_and_files(self):
        house = nested_house()
        for path, number in (("/", 0), ("a", 1), ("/a", 1), ("/a/b", 2), ("a/b/c", 3), ("d", 4), ("a/f", 5)):
            way = path if path.startswith("/") else "/" + path
            self.found(house, path, number, way)

    def test_several_slashes_and_one_at_the_end(self):
        house = nested_house()
        self.found(house, "//a///b//", 2, "/a/b")
        self.found(house, "a/", 1, "/a")
        self.found(house, "////", 0, "/")

    def test_last_false_is_no_matter_without_leads(self):
        house = nested_house()
        self.found(house, "a/f", 5, "/a/f", last=False)
        self.found(house, "a/b", 2, "/a/b", last=False)
        self.found(house, "/", 0, "/", last=False)

    def test_last_may_be_named_and_is_true_unless_told(self):
        house = nested_house()
        self.assertEqual(shown(walk(house, "ann", "d/l")), ("found", 1, "/a"))
        self.assertEqual(shown(walk(house, "ann", "d/l", last=True)), ("found", 1, "/a"))
        self.assertEqual(shown(walk(house, "ann", "d/l", last=False)), ("found", 6, "/d/l"))
        self.assertEqual(asked_of(house, "ann", "d/l"), [0, 4, 4, 0])
        self.assertEqual(asked_of(house, "ann", "d/l", last=False), [0, 4])

    def test_none(self):
        house = nested_house()
        self.failed(house, "x", 1, "none")
        self.failed(house, "/a/x/y", 2, "none")
        self.failed(house, "a/b/c/d", 4, "none")
        self.failed(house, "./a/../x", 4, "none")
        self.failed(house, "x", 1, "none", last=False)

    def test_flat(self):
        house = nested_house()
        for path in ("a/f/x", "a/f/.", "a/f/..", "a/f/", "/a/f/../b"):
            self.failed(house, path, 3, "flat")
            self.failed(house, path, 3, "flat", last=False)
        self.failed(house, "a/f/x/y/z", 3, "flat")

    def test_a_walk_begins_from_the_root_or_from_the_standing(self):
        house = nested_house()
        house.put_standing("ann", 1)
        self.found(house, "b", 2, "/a/b")
        self.found(house, "/a", 1, "/a")
        self.found(house, ".", 1, "/a")
        self.found(house, "/", 0, "/")
        self.failed(house, "a", 1, "none")
        self.failed(house, "/b", 1, "none")

    def test_each_asker_has_a_root_and_a_standing_of_its_own(self):
        house = nested_house()
        house.put_root("ben", 1)
        house.put_standing("ben", 2)
        self.found(house, "c", 3, "/b/c", "ben")
        self.found(house, "/f", 5, "/f", "ben")
        self.found(house, "a", 1, "/a", "ann")
        self.failed(house, "/a", 1, "none", "ben")

    def test_two_thousand_signs(self):
        house = new_house()
        folder(house, 0, "a")
        self.found(house, "./" * 1000, 0, "/")
        self.found(house, "a/../" * 399 + "a/../", 0, "/")
        self.failed(house, "./" * 999 + "b", 1000, "none")

    def test_folders_in_one_another(self):
        house = new_house()
        for number in range(250):
            folder(house, number, "a")
        self.found(house, "a/" * 249 + "a", 250, "/a" * 250)
        self.found(house, "a/" * 250 + "../" * 249 + "..", 0, "/")


class Dots(WalkCase):

    def test_one_dot_stays(self):
        house = nested_house()
        self.found(house, ".", 0, "/")
        self.found(house, "/./././.", 0, "/")
        self.found(house, "./a/./b/.", 2, "/a/b")

    def test_two_dots_go_to_where_the_folder_stands(self):
        house = nested_house()
        self.found(house, "a/b/..", 1, "/a")
        self.found(house, "a/b/../..", 0, "/")
        self.found(house, "a/../d", 4, "/d")
        self.found(house, "a/b/c/../../f", 5, "/a/f")

    def test_two_dots_stay_at_the_askers_root(self):
        house = nested_house()
        self.found(house, "..", 0, "/")
        self.found(house, "/../../a/../..", 0, "/")
        house.put_root("ben", 2)
        house.put_standing("ben", 3)
        self.found(house, "..", 2, "/", "ben")
        self.found(house, "../..", 2, "/", "ben")
        self.found(house, "/..", 2, "/", "ben")
        self.failed(house, "../../f", 3, "none", "ben")

    def test_two_dots_stay_where_the_root_is_anywhere_in_the_stack(self):
        house = nested_house()
        hung(house, "one", 2)
        hung(house, "two", 7)
        folder(house, 8, "y")
        for root in (2, 7, 8):
            house.put_root("ben", root)
            house.put_standing("ben", 9)
            self.found(house, "/..", 8, "/", "ben")
            self.found(house, "../..", 8, "/", "ben")
            self.found(house, ".", 9, "/y", "ben")

    def test_two_dots_from_a_hung_tree_go_to_the_folder_of_its_base(self):
        house = nested_house()
        hung(house, "one", 2)
        hung(house, "two", 7)
        folder(house, 8, "y")
        self.found(house, "a/b", 8, "/a/b")
        self.found(house, "a/b/y", 9, "/a/b/y")
        self.found(house, "a/b/..", 1, "/a")
        self.found(house, "a/b/y/../..", 1, "/a")
        self.failed(house, "a/b/c", 3, "none")

    def test_two_dots_into_a_top(self):
        house = nested_house()
        hung(house, "one", 0)
        folder(house, 7, "x")
        folder(house, 8, "y")
        self.found(house, "x/..", 7, "/")
        self.found(house, "x/y/../..", 7, "/")
        self.failed(house, "a", 1, "none")


class Outside(WalkCase):

    def test_standing_beyond_the_root(self):
        house = nested_house()
        house.put_root("ben", 1)
        house.put_standing("ben", 4)
        for path in (".", "..", "l", "x", "./", "../../a"):
            self.failed(house, path, 0, "outside", "ben")
            self.failed(house, path, 0, "outside", "ben", False)
            self.asked(house, path, [], "ben")
        self.found(house, "/b", 2, "/b", "ben")
        house.put_standing("ben", 0)
        self.failed(house, ".", 0, "outside", "ben")

    def test_standing_in_what_was_dropped(self):
        house = nested_house()
        house.put_standing("ben", 3)
        self.found(house, ".", 3, "/a/b/c", "ben")
        house.things.drop_name(2, "c")
        self.failed(house, ".", 0, "outside", "ben")
        self.failed(house, "..", 0, "outside", "ben")
        self.found(house, "/", 0, "/", "ben")

    def test_standing_in_what_is_covered(self):
        house = nested_house()
        house.put_standing("ben", 3)
        hung(house, "one", 2)
        self.failed(house, ".", 0, "outside", "ben")
        house.put_standing("ben", 2)
        self.found(house, ".", 7, "/a/b", "ben")

    def test_standing_in_a_tree_that_was_taken_down(self):
        house = nested_house()
        hung(house, "one", 2)
        folder(house, 7, "x")
        for standing in (7, 8):
            house.put_standing("ben", standing)
            house.take_tree("one")
            self.failed(house, ".", 0, "outside", "ben")
            house.hang_tree("one", 2)
        self.found(house, ".", 8, "/a/b/x", "ben")

    def test_the_root_is_always_seen(self):
        house = nested_house()
        hung(house, "one", 2)
        folder(house, 7, "x")
        for root, number in ((1, 1), (2, 7), (3, 3), (7, 7), (8, 8)):
            house.put_root("ben", root)
            house.put_standing("ben", root)
            self.found(house, "/", number, "/", "ben")
            self.found(house, ".", number, "/", "ben")
        house.take_tree("one")
        self.found(house, "/", 8, "/", "ben")
        house.put_root("ben", 7)
        self.found(house, "/x", 8, "/x", "ben")

    def test_a_moved_standing_goes_along(self):
        house = nested_house()
        house.put_standing("ben", 3)
        house.things.put_name(4, "q", 2)
        self.found(house, ".", 3, "/d/q/c", "ben")
        self.found(house, "../..", 4, "/d", "ben")


class Shut(WalkCase):

    def house(self):
        """/a may ann go in alone, /a/b all; /c ben alone; /e none; file 5 at /a/f; lead 6 at /c/l."""
        house = new_house()
        folder(house, 0, "a", "ann", "g", "lw")
        folder(house, 1, "b", "ann", "", "lgw")
        folder(house, 0, "c", "ben", "gw", "l")
        folder(house, 0, "e", "ben", "lw", "lw")
        file(house, 1, "f", "", "ann", "", "")
        lead(house, 3, "l", "/a/b", "ben")
        return house

    def test_by_owner_and_by_rest(self):
        house = self.house()
        self.found(house, "a/b", 2, "/a/b", "ann")
        self.failed(house, "a/b", 2, "shut", "ben")
        self.failed(house, "c/l", 2, "shut", "ann")
        self.failed(house, "e/x", 2, "shut", "ann")
        self.failed(house, "e/x", 2, "shut", "ben")
        self.failed(house, "a/b/x", 3, "shut", "ann")

    def test_what_is_found_may_be_shut(self):
        house = self.house()
        self.found(house, "a", 1, "/a", "ben")
        self.found(house, "e", 4, "/e", "ben")
        self.found(house, "a/f", 5, "/a/f", "ann")

    def test_dots_are_steps_too(self):
        house = self.house()
        for path in ("a/.", "a/..", "a/", "a/../c", "a/nothing", "a/f", "a/f/x"):
            self.failed(house, path, 2, "shut", "ben")
        self.failed(house, "e/..", 2, "shut", "ann")

    def test_through_a_lead(self):
        house = self.house()
        self.failed(house, "c/l", 4, "shut", "ben")
        self.found(house, "c/l", 6, "/c/l", "ben", False)

    def test_a_lead_in_a_shut_folder_is_not_read(self):
        house = self.house()
        lead(house, 1, "l", "l")
        self.failed(house, "a/l", 2, "shut", "ben")
        self.ring(house, "a/l", [7], "ann")

    def test_the_folder_that_covers_is_asked_and_not_the_covered_one(self):
        house = self.house()
        root = house.things.add_folder("ann", "", "g")
        house.tree_roots["one"] = root
        house.hang_tree("one", 4)
        folder(house, root, "x")
        self.found(house, "e/x", 8, "/e/x", "ben")
        self.failed(house, "e/x", 2, "shut", "ann")
        self.asked(house, "e/x", [0, root], "ben")

    def test_shut_at_the_first_step(self):
        house = new_house()
        folder(house, 0, "a", "ann", "lw", "")
        house.put_root("ann", 1)
        house.put_standing("ann", 1)
        self.failed(house, ".", 1, "shut")
        self.failed(house, "/x", 1, "shut")
        self.found(house, "/", 1, "/")

    def test_flat_goes_ahead_of_shut(self):
        house = self.house()
        self.failed(house, "a/f/x", 3, "flat", "ann")


class Leads(WalkCase):

    def house(self):
        """Folders /a 1, /a/b 2, /c 3, file 4 at /a/f; the leads of each test are put into it."""
        house = new_house()
        folder(house, 0, "a")
        folder(house, 1, "b")
        folder(house, 0, "c")
        file(house, 1, "f")
        return house

    def test_from_where_it_is(self):
        house = self.house()
        lead(house, 1, "l", "b")
        lead(house, 1, "m", "../c")
        lead(house, 1, "n", ".")
        lead(house, 1, "o", "f")
        self.found(house, "a/l", 2, "/a/b")
        self.found(house, "a/m", 3, "/c")
        self.found(house, "a/n", 1, "/a")
        self.found(house, "a/o", 4, "/a/f")
        self.found(house, "a/n/n/l/../m", 3, "/c")

    def test_not_from_the_standing(self):
        house = self.house()
        lead(house, 1, "l", "b")
        house.put_standing("ann", 3)
        self.found(house, "../a/l", 2, "/a/b")

    def test_from_the_root(self):
        house = self.house()
        lead(house, 2, "l", "/c")
        lead(house, 2, "m", "/a/f")
        self.found(house, "a/b/l", 3, "/c")
        self.found(house, "a/b/l/../a", 1, "/a")
        self.found(house, "a/b/m", 4, "/a/f")

    def test_from_the_askers_own_root(self):
        house = self.house()
        lead(house, 2, "l", "/b")
        lead(house, 2, "m", "/c")
        house.put_root("ben", 1)
        house.put_standing("ben", 2)
        self.found(house, "l", 2, "/b", "ben")
        self.failed(house, "m", 2, "none", "ben")
        self.failed(house, "/a/b/l", 4, "none", "ann")
        self.found(house, "/a/b/m", 3, "/c", "ann")

    def test_from_the_top_of_the_root(self):
        house = self.house()
        hung(house, "one", 0)
        number = folder(house, 5, "x")
        lead(house, number, "l", "/")
        lead(house, number, "m", "/x")
        self.found(house, "x/l", 5, "/")
        self.found(house, "x/m/l/x", 6, "/x")

    def test_no_lead_goes_beyond_the_root(self):
        house = self.house()
        lead(house, 2, "l", "../../../../c")
        house.put_root("ben", 1)
        house.put_standing("ben", 2)
        self.failed(house, "l", 6, "none", "ben")
        self.found(house, "a/b/l", 3, "/c", "ann")

    def test_no_part(self):
        house = self.house()
        lead(house, 2, "l", "/")
        lead(house, 2, "m", "///")
        self.found(house, "a/b/l", 0, "/")
        self.found(house, "a/b/m", 0, "/")
        self.found(house, "a/b/l/c", 3, "/c")
        self.found(house, "a/b/l/a/b/l", 0, "/")
        self.failed(house, "a/b/l/x", 4, "none")

    def test_slash_at_the_end_of_a_lead(self):
        house = self.house()
        lead(house, 1, "l", "f/")
        lead(house, 1, "m", "b/")
        self.failed(house, "a/l", 4, "flat")
        self.found(house, "a/m", 2, "/a/b")

    def test_a_lead_to_a_file_and_more(self):
        house = self.house()
        lead(house, 1, "l", "f")
        self.found(house, "a/l", 4, "/a/f")
        self.failed(house, "a/l/", 4, "flat")
        self.failed(house, "a/l/x", 4, "flat")
        lead(house, 1, "m", "l/x")
        self.failed(house, "a/m", 5, "flat")

    def test_leads_to_leads(self):
        house = self.house()
        lead(house, 1, "l", "m")
        lead(house, 1, "m", "../n/b")
        lead(house, 0, "n", "/a")
        self.found(house, "a/l", 2, "/a/b")
        self.found(house, "a/l/../l", 2, "/a/b")

    def test_what_is_left_comes_behind_the_leads_parts(self):
        house = self.house()
        lead(house, 0, "l", "a/b")
        self.found(house, "l/../f", 4, "/a/f")
        self.failed(house, "l/f", 4, "none")

    def test_steps_are_counted_through_leads(self):
        house = self.house()
        lead(house, 0, "l", "a/b")
        lead(house, 0, "m", "./l/.")
        self.failed(house, "l/x", 4, "none")
        self.failed(house, "m/x", 7, "none")
        self.failed(house, "l/../../m/x", 12, "none")
        lead(house, 0, "n", "a/x/y")
        self.failed(house, "n/z", 3, "none")
        lead(house, 0, "o", "a/f/y")
        self.failed(house, "o", 4, "flat")

    def test_who_owns_the_lead_is_no_matter(self):
        house = self.house()
        lead(house, 0, "l", "a", "ben")
        self.found(house, "l", 1, "/a", "ann")
        self.found(house, "l", 1, "/a", "ben")

    def test_a_lead_into_a_covered_folder(self):
        house = self.house()
        hung(house, "one", 1)
        folder(house, 5, "x")
        lead(house, 0, "l", "a")
        lead(house, 0, "m", "a/x/..")
        lead(house, 0, "n", "a/b")
        self.found(house, "l", 5, "/a")
        self.found(house, "m", 5, "/a")
        self.failed(house, "n", 3, "none")

    def test_the_longest_lead(self):
        house = self.house()
        lead(house, 0, "l", "a/../" * 24)
        lead(house, 0, "m", "." + "/." * 59)
        self.found(house, "l", 0, "/")
        self.failed(house, "l/x", 51, "none")
        self.failed(house, "m/x", 62, "none")


class LastFalse(WalkCase):

    def house(self):
        """File 1 at /f, folder 2 at /a, lead 3 at /l for a, lead 4 at /a/m for ../l, lead 5 at /n for n."""
        house = new_house()
        file(house, 0, "f")
        folder(house, 0, "a")
        lead(house, 0, "l", "a")
        lead(house, 2, "m", "../l")
        lead(house, 0, "n", "n")
        return house

    def test_a_lead_as_the_last_part_is_found(self):
        house = self.house()
        self.found(house, "l", 3, "/l", last=False)
        self.found(house, "/a/m", 4, "/a/m", last=False)
        self.found(house, "./l", 3, "/l", last=False)

    def test_leads_ahead_of_the_last_part_are_read(self):
        house = self.house()
        self.found(house, "l/m", 4, "/a/m", last=False)
        self.found(house, "a/m/m", 4, "/a/m", last=False)
        self.found(house, "l/../l", 3, "/l", last=False)

    def test_a_slash_behind_it_makes_it_not_the_last_part(self):
        house = self.house()
        self.found(house, "l/", 2, "/a", last=False)
        self.found(house, "l/.", 2, "/a", last=False)
        self.found(house, "a/m//", 2, "/a", last=False)

    def test_the_last_part_of_a_lead_is_not_the_last_part_of_the_path(self):
        house = self.house()
        self.found(house, "a/m/.", 2, "/a", last=False)
        self.found(house, "a/m/../f", 1, "/f", last=False)
        self.failed(house, "a/m/x", 6, "none", last=False)

    def test_a_lead_is_found_ahead_of_ring_and_many(self):
        house = self.house()
        self.found(house, "n", 5, "/n", last=False)
        self.ring(house, "n", [5])
        self.ring(house, "n/", [5], last=False)
        lead(house, 0, "r", ".")
        self.found(house, "r/" * 40 + "l", 3, "/l", last=False)
        self.failed(house, "r/" * 40 + "l", 81, "many")

    def test_the_right_to_go_is_asked_all_the_same(self):
        house = self.house()
        folder(house, 0, "s", "ann", "", "")
        lead(house, 6, "l", "/")
        self.failed(house, "s/l", 2, "shut", last=False)


class Rings(WalkCase):

    def test_the_examples(self):
        house = new_house()
        folder(house, 0, "b")
        lead(house, 0, "l", ".")
        self.found(house, "l/l/l", 0, "/")
        house = new_house()
        lead(house, 0, "l", "l/b")
        self.ring(house, "l", [1])
        house = new_house()
        lead(house, 0, "a", "b")
        lead(house, 0, "b", "c")
        lead(house, 0, "c", "b")
        self.ring(house, "a", [2, 3])

    def test_of_one(self):
        house = new_house()
        for number, path in enumerate(("l", "./l", "/l", "../l", "l/", "l/x"), start=1):
            lead(house, 0, "l", path)
            self.ring(house, "l", [number])
            self.ring(house, "/l/x/y", [number])

    def test_turned_about_so_that_the_least_comes_first(self):
        house = new_house()
        lead(house, 0, "c", "a")
        lead(house, 0, "a", "d")
        lead(house, 0, "d", "b")
        lead(house, 0, "b", "c")
        lead(house, 0, "e", "d")
        for path in ("a", "b", "c", "d", "e", "e/x"):
            self.ring(house, path, [1, 2, 3, 4])

    def test_in_the_order_in_which_they_were_begun(self):
        house = new_house()
        lead(house, 0, "a", "c")
        lead(house, 0, "b", "a")
        lead(house, 0, "c", "b")
        for path in ("a", "b", "c"):
            self.ring(house, path, [1, 3, 2])

    def test_leads_ahead_of_the_one_met_again_are_left_out(self):
        house = new_house()
        lead(house, 0, "a", "b")
        lead(house, 0, "b", "d")
        lead(house, 0, "c", "b")
        lead(house, 0, "d", "c")
        self.ring(house, "a", [2, 4, 3])

    def test_leads_that_were_read_through_are_left_out(self):
        house = new_house()
        lead(house, 0, "r", ".")
        lead(house, 0, "a", "r/r/b")
        lead(house, 0, "b", "r/a/r")
        self.ring(house, "a", [2, 3])
        self.ring(house, "r/b", [2, 3])

    def test_a_lead_read_through_may_be_read_again(self):
        house = new_house()
        folder(house, 0, "a")
        lead(house, 0, "l", "a/..")
        lead(house, 0, "m", "l/l/a")
        self.found(house, "l/l/m", 1, "/a")
        self.found(house, "m/../l/m/../m", 1, "/a")

    def test_being_read_until_all_that_its_last_part_brings_is_done(self):
        house = new_house()
        lead(house, 0, "a", "b")
        lead(house, 0, "b", "./c")
        lead(house, 0, "c", "./a")
        self.ring(house, "a", [1, 2, 3])

    def test_a_lead_without_parts_is_at_once_read_no_more(self):
        house = new_house()
        lead(house, 0, "s", "/")
        lead(house, 0, "t", "s/s")
        self.found(house, "s/s/s", 0, "/")
        self.found(house, "t/s/t", 0, "/")
        lead(house, 0, "u", "s/u")
        self.ring(house, "u", [3])

    def test_by_ways_through_folders(self):
        house = new_house()
        folder(house, 0, "a")
        folder(house, 1, "b")
        lead(house, 1, "l", "b/m")
        lead(house, 2, "m", "/a/l/x")
        self.ring(house, "a/l", [3, 4])
        self.ring(house, "/a/b/m", [3, 4])

    def test_the_same_name_in_another_folder_is_another_lead(self):
        house = new_house()
        folder(house, 0, "a")
        folder(house, 1, "b")
        lead(house, 0, "l", "a/l")
        lead(house, 1, "l", "b/l")
        file(house, 2, "l")
        self.found(house, "l", 5, "/a/b/l")

    def test_by_each_askers_own_root(self):
        house = new_house()
        folder(house, 0, "a")
        lead(house, 1, "l", "/l")
        file(house, 0, "l")
        house.put_root("ben", 1)
        self.ring(house, "/l", [2], "ben")
        self.found(house, "/a/l", 3, "/l", "ann")

    def test_a_ring_that_fails_on_its_way_is_none(self):
        house = new_house()
        file(house, 0, "f")
        folder(house, 0, "s", "ann", "", "")
        lead(house, 0, "a", "x/a")
        lead(house, 0, "b", "f/b")
        lead(house, 0, "c", "s/../c")
        self.failed(house, "a", 2, "none")
        self.failed(house, "b", 3, "flat")
        self.failed(house, "c", 3, "shut")

    def test_what_is_told_is_new_each_time(self):
        house = new_house()
        lead(house, 0, "l", "l")
        walk(house, "ann", "l").leads.append(7)
        self.ring(house, "l", [1])


class Many(WalkCase):

    def chain(self, many):
        """Leads 2 to many + 1 by the names naa, nab, .., each for the next one, the last one for folder 1 at /end."""
        house = new_house()
        folder(house, 0, "end")
        names = ["n" + "abcdefghij"[count // 10] + "abcdefghij"[count % 10] for count in range(many)] + ["end"]
        for name, leads_to in zip(names, names[1:]):
            lead(house, 0, name, leads_to)
        return house

    def test_forty_in_one_another(self):
        self.found(self.chain(39), "naa", 1, "/end")
        self.found(self.chain(40), "naa", 1, "/end")

    def test_one_more(self):
        self.failed(self.chain(41), "naa", 41, "many")
        self.failed(self.chain(41), "./naa/x", 42, "many")
        self.found(self.chain(41), "nab", 1, "/end")

    def test_forty_behind_one_another(self):
        house = new_house()
        lead(house, 0, "l", ".")
        self.found(house, "l" + "/l" * 39, 0, "/")
        self.failed(house, "l" + "/l" * 40, 81, "many")
        self.failed(house, "l" + "/l" * 41, 81, "many")
        self.failed(house, "l/" * 40 + "x", 81, "none")

    def test_leads_without_parts_are_counted(self):
        house = new_house()
        lead(house, 0, "l", "/")
        self.found(house, "l" + "/l" * 39, 0, "/")
        self.failed(house, "l" + "/l" * 40, 41, "many")

    def test_each_walk_counts_anew(self):
        house = new_house()
        lead(house, 0, "l", ".")
        for again in range(3):
            self.found(house, "l" + "/l" * 39, 0, "/")

    def test_a_ring_of_forty(self):
        house = self.chain(40)
        house.things.drop_name(0, "end")
        self.failed(house, "naa", 41, "none")
        lead(house, 0, "end", "naa")
        self.failed(house, "naa", 41, "many")
        house = self.chain(39)
        house.things.drop_name(0, "end")
        number = lead(house, 0, "end", "naa")
        self.ring(house, "naa", list(range(2, 41)) + [number])
        self.ring(house, "nac", list(range(2, 41)) + [number])

    def test_ring_goes_ahead_of_many(self):
        house = new_house()
        lead(house, 0, "r", ".")
        lead(house, 0, "a", "r/" * 39 + "a")
        self.ring(house, "a", [2])
        lead(house, 0, "b", "r/" * 40 + "b")
        self.failed(house, "b", 80, "many")

    def test_leads_that_grow(self):
        house = new_house()
        lead(house, 0, "a", ".")
        names = "abcdefgh"
        for name, other in zip(names, names[1:]):
            lead(house, 0, other, name + "/" + name)
        self.found(house, "e", 0, "/")
        # Ahead of the 41st lead 18 of the 40 that were read are the one for a dot, whose dot is a step, too.
        self.failed(house, "h", 41 + 18, "many")


class TruePaths(WalkCase):

    def test_of_a_file_by_the_name_gone_by(self):
        house = nested_house()
        house.things.put_name(4, "b", 5)
        house.things.put_name(0, "z", 5)
        house.things.put_name(3, "k", 5)
        for path in ("/a/f", "/d/b", "/z", "/a/b/c/k"):
            self.found(house, path, 5, path)
        self.found(house, "d/l/../d/../z", 5, "/z")

    def test_from_each_askers_root(self):
        house = nested_house()
        house.put_standing("ben", 2)
        for root, way in ((0, "/a/b/c"), (1, "/b/c"), (2, "/c")):
            house.put_root("ben", root)
            self.found(house, "c", 3, way, "ben")
        house.put_root("ben", 3)
        self.found(house, "/", 3, "/", "ben")

    def test_through_trees_by_the_names_of_the_covered_folders(self):
        house = nested_house()
        hung(house, "one", 2)
        folder(house, 7, "x")
        hung(house, "two", 8)
        file(house, 9, "g")
        lead(house, 9, "l", "..")
        self.found(house, "a/b", 7, "/a/b")
        self.found(house, "a/b/x", 9, "/a/b/x")
        self.found(house, "a/b/x/g", 10, "/a/b/x/g")
        self.found(house, "a/b/x/l", 11, "/a/b/x/l", last=False)
        self.found(house, "a/b/x/l", 7, "/a/b")

    def test_from_a_root_within_a_stack(self):
        house = nested_house()
        hung(house, "one", 2)
        hung(house, "two", 7)
        folder(house, 8, "x")
        file(house, 8, "g")
        for root in (2, 7, 8):
            house.put_root("ben", root)
            self.found(house, "/x", 9, "/x", "ben")
            self.found(house, "/g", 10, "/g", "ben")
            self.found(house, "/", 8, "/", "ben")

    def test_of_a_file_and_a_lead_in_the_root(self):
        house = new_house()
        file(house, 0, "f")
        lead(house, 0, "l", "f")
        self.found(house, "f", 1, "/f")
        self.found(house, "l", 1, "/f")
        self.found(house, "l", 2, "/l", last=False)

    def test_longer_than_a_path_may_be(self):
        house = new_house()
        for number in range(240):
            folder(house, number, "abcdefgh")
        house.put_standing("ann", 240)
        self.found(house, ".", 240, "/abcdefgh" * 240)

    def test_of_a_folder_to_which_rights_forbid_the_way(self):
        house = new_house()
        folder(house, 0, "s", "ann", "", "")
        folder(house, 1, "b")
        house.put_standing("ben", 2)
        self.found(house, ".", 2, "/s/b", "ben")
        self.failed(house, "/s/b", 2, "shut", "ben")


class AskedOf(WalkCase):

    def test_one_for_each_step(self):
        house = nested_house()
        self.asked(house, "/", [])
        self.asked(house, ".", [0])
        self.asked(house, "a", [0])
        self.asked(house, "a/b", [0, 1])
        self.asked(house, "a/", [0, 1])
        self.asked(house, "a/./b/../f", [0, 1, 1, 2, 1])
        self.asked(house, "..", [0])

    def test_through_leads(self):
        house = nested_house()
        self.asked(house, "d/l", [0, 4, 4, 0])
        self.asked(house, "d/l/f", [0, 4, 4, 0, 1])
        self.asked(house, "d/l", [0, 4], last=False)
        lead(house, 3, "s", "/")
        self.asked(house, "a/b/c/s/d", [0, 1, 2, 3, 0])

    def test_tops_are_asked(self):
        house = nested_house()
        hung(house, "one", 2)
        folder(house, 7, "x")
        self.asked(house, "a/b/x/..", [0, 1, 7, 8])

    def test_where_it_fails(self):
        house = nested_house()
        self.asked(house, "a/x/y", [0, 1])
        self.asked(house, "a/f/x", [0, 1])
        folder(house, 1, "s", "ann", "", "")
        self.asked(house, "a/s/x/y", [0, 1, 7])
        self.asked(house, "a/s", [0, 1])

    def test_where_it_goes_round_or_on_for_too_long(self):
        house = new_house()
        folder(house, 0, "a")
        lead(house, 0, "l", "a/m")
        lead(house, 1, "m", "../l")
        self.asked(house, "l", [0, 0, 1, 1, 0])
        lead(house, 0, "r", ".")
        self.asked(house, "r" + "/r" * 40, [0] * 81)

    def test_none_where_it_begins_outside(self):
        house = nested_house()
        house.put_root("ben", 1)
        self.asked(house, "a/b", [], "ben")

    def test_what_is_told_is_the_askers_own(self):
        house = nested_house()
        told = asked_of(house, "ann", "a/b")
        self.assertIs(type(told), list)
        told.append(7)
        self.asked(house, "a/b", [0, 1])


class Refusals(unittest.TestCase):

    def test_no_asker_goes_ahead_of_no_path(self):
        house = nested_house()
        for question in (walk, asked_of):
            for asker in NO_ASKERS:
                for path in ("/", "a", "", "...", None, True, 0, ["/"]):
                    with self.subTest(asker=asker, path=path):
                        self.assertRaises(NoAsker, question, house, asker, path)
                        self.assertRaises(NoAsker, question, house, asker, path, False)

    def test_no_path(self):
        house = nested_house()
        house.put_root("ben", 1)
        for question in (walk, asked_of):
            for path in NO_PATHS:
                for asker in ("ann", "ben"):
                    with self.subTest(path=path):
                        self.assertRaises(NoPath, question, house, asker, path)
                        self.assertRaises(NoPath, question, house, asker, path, False)


class NothingIsChanged(unittest.TestCase):

    def test_by_walks(self):
        house = nested_house()
        hung(house, "one", 2)
        lead(house, 0, "l", "l")
        house.put_root("ben", 1)
        house.put_standing("ben", 4)
        before = picture(house)
        for asker in ("ann", "ben"):
            for path in ("/", "a/b/c", "d/l/f", "l", "..", "a/f/x", "x", "/b/.."):
                for last in (True, False):
                    first = (shown(walk(house, asker, path, last)), asked_of(house, asker, path, last))
                    again = (shown(walk(house, asker, path, last)), asked_of(house, asker, path, last))
                    self.assertEqual(first, again)
        self.assertEqual(picture(house), before)

    def test_by_refusals(self):
        house = nested_house()
        before = picture(house)
        for path in NO_PATHS:
            self.assertRaises(NoPath, walk, house, "ann", path)
        self.assertRaises(NoAsker, walk, house, "carl", "/")
        self.assertEqual(picture(house), before)

    def test_what_is_found_is_seen(self):
        house = nested_house()
        hung(house, "one", 2)
        folder(house, 7, "x")
        for path in ("/", "a", "a/b", "a/b/x", "d/l", "d/l/b"):
            self.assertTrue(is_seen(house, "ann", walk(house, "ann", path).number))


if __name__ == "__main__":
    unittest.main()
