import unittest

from houses import NO_NUMBERS, NO_TEXTS, file, folder, hung, lead, nested_house, new_house, picture
from leadnames.errors import NoAsker, NoDeed, NoName, NoRights, NoThing, NoTree
from leadnames.house import House

EIGHT = ("", "l", "g", "w", "lg", "lw", "gw", "lgw")
NO_NAMES = NO_TEXTS + ["", "abcdefghi", "A", "a1", "a b", ".", "..", "a/b", " a", "a\n", "-", "\u00e9"]
NO_ASKERS = NO_TEXTS + ["", "carl", "main", "Ann", "ann ", "annn", "abcdefghi", "A", "/"]
NO_TREES = NO_TEXTS + ["", "ann", "trunk", "Main", "main ", "abcdefghi", "/"]
NO_RIGHTS = NO_TEXTS + ["", "lg", "lgw", "gw", "gl", "L", "G", "r", "x", " ", "l ", "-"]
OF_A_NUMBER = ("kind_of", "owner_of", "rights_of", "names_in", "text_of", "place_of", "places_of")


class NewHouse(unittest.TestCase):

    def test_one_asker(self):
        house = House("ann")
        self.assertEqual(house.askers(), ["ann"])
        self.assertEqual(house.root_of("ann"), 0)
        self.assertEqual(house.standing_of("ann"), 0)

    def test_one_tree(self):
        house = House("ann")
        self.assertEqual(house.trees(), ["main"])
        self.assertEqual(house.tree_root("main"), 0)
        self.assertIsNone(house.covered_by("main"))

    def test_the_root(self):
        house = House("ann")
        self.assertEqual(house.many(), 1)
        self.assertEqual(house.kind_of(0), "folder")
        self.assertEqual(house.owner_of(0), "ann")
        self.assertEqual(house.rights_of(0), ("lgw", "lg"))
        self.assertEqual(house.names_in(0), [])
        self.assertIsNone(house.child(0, "a"))
        self.assertEqual(house.text_of(0), "")
        self.assertIsNone(house.place_of(0))
        self.assertEqual(house.places_of(0), [])
        self.assertRaises(NoThing, house.kind_of, 1)

    def test_owner_of_one_and_of_eight_letters(self):
        for owner in ("a", "abcdefgh", "main"):
            house = House(owner)
            self.assertEqual(house.askers(), [owner])
            self.assertEqual(house.owner_of(0), owner)

    def test_owner_that_is_no_name(self):
        for owner in NO_NAMES:
            with self.subTest(owner=owner):
                self.assertRaises(NoName, House, owner)

    def test_two_houses_share_nothing(self):
        one, other = House("ann"), House("ann")
        before = picture(other)
        one.enroll("ben")
        folder(one, 0, "a")
        hung(one, "tree", 1)
        one.put_root("ann", 1)
        one.put_standing("ann", 2)
        self.assertEqual(picture(other), before)
        self.assertRaises(NoAsker, other.root_of, "ben")
        self.assertRaises(NoTree, other.tree_root, "tree")
        self.assertRaises(NoThing, other.kind_of, 1)


class Enroll(unittest.TestCase):

    def test_each_new_asker_begins_at_nought(self):
        house = House("zoe")
        folder(house, 0, "a")
        house.put_root("zoe", 1)
        house.put_standing("zoe", 1)
        self.assertIsNone(house.enroll("ben"))
        self.assertIsNone(house.enroll("abcdefgh"))
        self.assertIsNone(house.enroll("main"))
        self.assertEqual(house.askers(), ["abcdefgh", "ben", "main", "zoe"])
        for asker in ("abcdefgh", "ben", "main"):
            self.assertEqual((house.root_of(asker), house.standing_of(asker)), (0, 0))
        self.assertEqual((house.root_of("zoe"), house.standing_of("zoe")), (1, 1))
        self.assertEqual(house.many(), 2)

    def test_nine_askers(self):
        house = House("a")
        for name in "ihgfedcb":
            house.enroll(name)
        self.assertEqual(house.askers(), list("abcdefghi"))

    def test_an_asker_told_again(self):
        house = nested_house()
        house.put_root("ben", 1)
        house.put_standing("ben", 2)
        before = picture(house)
        for name in ("ann", "ben"):
            with self.assertRaises(NoDeed) as taken:
                house.enroll(name)
            self.assertEqual(taken.exception.reason, "there")
        self.assertEqual(picture(house), before)

    def test_no_name(self):
        house = nested_house()
        before = picture(house)
        for name in NO_NAMES:
            with self.subTest(name=name):
                self.assertRaises(NoName, house.enroll, name)
        self.assertEqual(picture(house), before)


class Told(unittest.TestCase):

    def test_askers_and_trees_are_sorted(self):
        house = House("mia")
        for name in ("zoe", "ann", "bo", "b"):
            house.enroll(name)
        for tree in ("wood", "a", "nut"):
            house.add_tree(tree, "mia")
        self.assertEqual(house.askers(), ["ann", "b", "bo", "mia", "zoe"])
        self.assertEqual(house.trees(), ["a", "main", "nut", "wood"])

    def test_root_and_standing(self):
        house = nested_house()
        house.put_root("ben", 1)
        house.put_standing("ben", 3)
        self.assertEqual((house.root_of("ben"), house.standing_of("ben")), (1, 3))
        self.assertEqual((house.root_of("ann"), house.standing_of("ann")), (0, 0))

    def test_kinds_owners_texts(self):
        house = nested_house()
        file(house, 0, "g", "~" * 60, owner="ben")
        self.assertEqual(house.many(), 8)
        self.assertEqual([house.kind_of(number) for number in range(8)],
                         ["folder"] * 5 + ["file", "lead", "file"])
        self.assertEqual([house.owner_of(number) for number in range(8)], ["ann"] * 7 + ["ben"])
        self.assertEqual([house.text_of(number) for number in range(8)],
                         [""] * 5 + ["some text", "../a", "~" * 60])

    def test_rights(self):
        house = new_house()
        for mine in EIGHT:
            for rest in EIGHT:
                number = folder(house, 0, "a", "ben", mine, rest)
                self.assertEqual(house.rights_of(number), (mine, rest))
                number = file(house, 0, "b", "", "ben", mine, rest)
                self.assertEqual(house.rights_of(number), (mine, rest))
        self.assertEqual(house.rights_of(lead(house, 0, "l", "a")), ("", ""))
        self.assertIs(type(house.rights_of(0)), tuple)

    def test_children_and_names(self):
        house = nested_house()
        self.assertEqual(house.names_in(0), ["a", "d"])
        self.assertEqual(house.names_in(1), ["b", "f"])
        self.assertEqual(house.names_in(3), [])
        self.assertEqual([house.child(0, "a"), house.child(1, "b"), house.child(1, "f"), house.child(4, "l")],
                         [1, 2, 5, 6])
        self.assertIsNone(house.child(0, "b"))
        self.assertIsNone(house.child(0, "abcdefgh"))

    def test_names_are_sorted(self):
        house = new_house()
        for name in ("z", "b", "bb", "a", "ab"):
            file(house, 0, name)
        self.assertEqual(house.names_in(0), ["a", "ab", "b", "bb", "z"])

    def test_children_and_names_of_what_is_no_folder(self):
        house = nested_house()
        for number in (5, 6):
            self.assertEqual(house.names_in(number), [])
            self.assertIsNone(house.child(number, "a"))

    def test_a_lead_is_told_and_not_followed(self):
        house = nested_house()
        self.assertEqual(house.child(4, "l"), 6)
        self.assertEqual(house.names_in(6), [])

    def test_places(self):
        house = nested_house()
        self.assertEqual([house.place_of(number) for number in range(7)],
                         [None, (0, "a"), (1, "b"), (2, "c"), (0, "d"), (1, "f"), (4, "l")])
        self.assertEqual(house.places_of(0), [])
        self.assertEqual(house.places_of(3), [(2, "c")])

    def test_places_of_a_file_with_several(self):
        house = nested_house()
        house.things.put_name(4, "b", 5)
        house.things.put_name(0, "z", 5)
        house.things.put_name(0, "k", 5)
        self.assertEqual(house.places_of(5), [(0, "k"), (0, "z"), (1, "f"), (4, "b")])
        self.assertEqual(house.place_of(5), (0, "k"))

    def test_folders_of_ten_and_more_are_sorted_as_numbers(self):
        house = new_house()
        for name in "abcdefghijk":
            folder(house, 0, name)
        number = file(house, 10, "a")
        house.things.put_name(9, "z", number)
        self.assertEqual(house.places_of(number), [(9, "z"), (10, "a")])
        self.assertEqual(house.place_of(number), (9, "z"))

    def test_things_that_are_gone_are_still_told(self):
        house = nested_house()
        for where, name in ((2, "c"), (1, "f"), (4, "l")):
            house.things.drop_name(where, name)
        self.assertEqual(house.many(), 7)
        self.assertEqual([house.kind_of(number) for number in (3, 5, 6)], ["folder", "file", "lead"])
        self.assertEqual([house.owner_of(number) for number in (3, 5, 6)], ["ann"] * 3)
        self.assertEqual([house.text_of(number) for number in (3, 5, 6)], ["", "some text", "../a"])
        self.assertEqual([house.rights_of(number) for number in (3, 5, 6)], [("lgw", "lg"), ("lgw", "lg"), ("", "")])
        self.assertEqual([house.place_of(number) for number in (3, 5, 6)], [None] * 3)
        self.assertEqual(folder(house, 0, "n"), 7)

    def test_trees(self):
        house = nested_house()
        self.assertEqual(house.add_tree("one", "ben"), 7)
        self.assertEqual(hung(house, "two", 2), 8)
        self.assertEqual(hung(house, "three", 8), 9)
        self.assertEqual([house.tree_root(tree) for tree in ("main", "one", "two", "three")], [0, 7, 8, 9])
        self.assertEqual([house.covered_by(tree) for tree in ("main", "one", "two", "three")], [None, None, 2, 8])
        self.assertEqual((house.owner_of(7), house.rights_of(7), house.place_of(7)), ("ben", ("lgw", "lg"), None))

    def test_a_tree_that_was_taken_down_and_hung_again(self):
        house = nested_house()
        hung(house, "two", 2)
        house.take_tree("two")
        self.assertIsNone(house.covered_by("two"))
        house.hang_tree("two", 0)
        self.assertEqual(house.covered_by("two"), 0)

    def test_what_is_told_is_the_askers_own(self):
        house = nested_house()
        hung(house, "wood", 2)
        before = picture(house)
        for told in (house.askers(), house.trees(), house.names_in(0), house.places_of(5), house.places_of(0)):
            self.assertIs(type(told), list)
            told.append("more")
            told.reverse()
            told.clear()
        self.assertEqual(picture(house), before)
        self.assertIsNot(house.askers(), house.askers())
        self.assertIsNot(house.places_of(5), house.places_of(5))


class May(unittest.TestCase):

    def test_the_owner_and_others_by_each_of_the_eight_rights(self):
        house = new_house()
        house.enroll("carl")
        for make in (lambda mine, rest: folder(house, 0, "a", "ben", mine, rest),
                     lambda mine, rest: file(house, 0, "b", "", "ben", mine, rest)):
            for mine in EIGHT:
                for rest in EIGHT:
                    number = make(mine, rest)
                    for right in "lgw":
                        self.assertIs(house.may("ben", number, right), right in mine)
                        self.assertIs(house.may("ann", number, right), right in rest)
                        self.assertIs(house.may("carl", number, right), right in rest)

    def test_the_root(self):
        house = new_house()
        self.assertEqual([house.may("ann", 0, right) for right in "lgw"], [True, True, True])
        self.assertEqual([house.may("ben", 0, right) for right in "lgw"], [True, True, False])

    def test_never_of_a_lead(self):
        house = new_house()
        number = lead(house, 0, "l", "/", "ben")
        for asker in ("ann", "ben"):
            for right in "lgw":
                self.assertIs(house.may(asker, number, right), False)

    def test_of_a_thing_that_is_gone(self):
        house = nested_house()
        house.things.drop_name(2, "c")
        self.assertIs(house.may("ann", 3, "w"), True)
        self.assertIs(house.may("ben", 3, "w"), False)


class Refusals(unittest.TestCase):

    def setUp(self):
        self.house = nested_house()
        hung(self.house, "wood", 2)
        self.before = picture(self.house)

    def tearDown(self):
        self.assertEqual(picture(self.house), self.before)

    def test_no_asker(self):
        for asker in NO_ASKERS:
            with self.subTest(asker=asker):
                self.assertRaises(NoAsker, self.house.root_of, asker)
                self.assertRaises(NoAsker, self.house.standing_of, asker)
                self.assertRaises(NoAsker, self.house.may, asker, 0, "l")

    def test_no_thing(self):
        for number in NO_NUMBERS + [8, 9]:
            with self.subTest(number=number):
                for question in OF_A_NUMBER:
                    self.assertRaises(NoThing, getattr(self.house, question), number)
                self.assertRaises(NoThing, self.house.child, number, "a")
                self.assertRaises(NoThing, self.house.may, "ann", number, "l")

    def test_no_tree(self):
        for tree in NO_TREES:
            with self.subTest(tree=tree):
                self.assertRaises(NoTree, self.house.tree_root, tree)
                self.assertRaises(NoTree, self.house.covered_by, tree)

    def test_no_name_goes_ahead_of_no_thing(self):
        for name in NO_NAMES:
            for number in (0, 1, 5, 6, 8, -1, None, True, [0], "0"):
                with self.subTest(name=name, number=number):
                    self.assertRaises(NoName, self.house.child, number, name)

    def test_no_rights_stands_behind_no_asker_and_ahead_of_no_thing(self):
        for right in NO_RIGHTS:
            for number in (0, 5, 6, 8, -1, None, True, [0], "0"):
                with self.subTest(right=right, number=number):
                    self.assertRaises(NoRights, self.house.may, "ann", number, right)
                    self.assertRaises(NoAsker, self.house.may, "carl", number, right)
                    self.assertRaises(NoAsker, self.house.may, ["ann"], number, right)

    def test_no_asker_goes_ahead_of_no_thing(self):
        for number in NO_NUMBERS + [8]:
            with self.subTest(number=number):
                self.assertRaises(NoAsker, self.house.may, "carl", number, "l")

    def test_what_is_handed_in_stays(self):
        handed = [["ann"], {"ann": 0}, [0], []]
        for value in handed:
            before = value.copy()
            for question in OF_A_NUMBER:
                self.assertRaises(NoThing, getattr(self.house, question), value)
            self.assertRaises(NoAsker, self.house.root_of, value)
            self.assertRaises(NoTree, self.house.tree_root, value)
            self.assertRaises(NoName, self.house.enroll, value)
            self.assertEqual(value, before)


if __name__ == "__main__":
    unittest.main()
