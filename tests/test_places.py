import unittest

from houses import NO_NUMBERS, NO_TEXTS, file, folder, hung, lead, nested_house, new_house, picture
from leadnames.errors import NoAsker, NoThing
from leadnames.places import base_of, is_below, is_seen, stack_of, top_of, tree_of


def covered_house():
    """nested_house with tree one (root 7, in it x 8) over /a/b, two (root 9, in it y 10) over one's root, three
    (root 11, in it z 12) over y, and free (root 13, in it w 14), which is not hung."""
    house = nested_house()
    hung(house, "one", 2)
    folder(house, 7, "x")
    hung(house, "two", 7)
    folder(house, 9, "y")
    hung(house, "three", 10)
    folder(house, 11, "z")
    house.add_tree("free", "ann")
    folder(house, 13, "w")
    return house


def seen_by(house, asker):
    return [number for number in range(house.many())
            if house.kind_of(number) == "folder" and is_seen(house, asker, number)]


class Stacks(unittest.TestCase):

    def check(self, house, stack):
        for number in stack:
            with self.subTest(number=number):
                self.assertEqual(stack_of(house, number), stack)
                self.assertIs(type(stack_of(house, number)), list)
                self.assertEqual(base_of(house, number), stack[0])
                self.assertEqual(top_of(house, number), stack[-1])

    def test_where_nothing_is_hung(self):
        house = nested_house()
        for number in range(5):
            self.check(house, [number])

    def test_the_root_alone(self):
        self.check(new_house(), [0])

    def test_trees_over_folders_and_over_roots(self):
        house = covered_house()
        self.check(house, [2, 7, 9])
        self.check(house, [10, 11])
        for number in (0, 1, 3, 4, 8, 12, 13, 14):
            self.check(house, [number])

    def test_trees_over_the_first_root(self):
        house = nested_house()
        hung(house, "one", 0)
        hung(house, "two", 7)
        hung(house, "three", 8)
        self.check(house, [0, 7, 8, 9])

    def test_a_tree_that_is_free_may_be_covered(self):
        house = covered_house()
        hung(house, "more", 13)
        self.check(house, [13, 15])
        self.assertEqual(tree_of(house, 15), "more")

    def test_five_trees_over_one_another_hung_from_the_top_on(self):
        house = new_house()
        roots = [house.add_tree(tree, "ann") for tree in ("e", "d", "c", "b", "a")]
        for tree, over in (("e", roots[1]), ("d", roots[2]), ("c", roots[3]), ("b", roots[4]), ("a", 0)):
            house.hang_tree(tree, over)
        self.check(house, [0, 5, 4, 3, 2, 1])

    def test_taken_down(self):
        house = covered_house()
        house.take_tree("one")
        self.check(house, [2])
        self.check(house, [7, 9])
        self.check(house, [10, 11])
        house.hang_tree("one", 4)
        self.check(house, [4, 7, 9])
        house.take_tree("two")
        self.check(house, [4, 7])
        self.check(house, [9])

    def test_a_covered_folder_that_was_moved_stays_covered(self):
        house = covered_house()
        house.things.put_name(4, "q", 2)
        self.check(house, [2, 7, 9])

    def test_what_is_told_is_the_askers_own(self):
        house = covered_house()
        before = picture(house)
        told = stack_of(house, 7)
        told.append(5)
        told.reverse()
        self.assertEqual(stack_of(house, 7), [2, 7, 9])
        self.assertEqual(picture(house), before)


class Seen(unittest.TestCase):

    def test_from_the_first_root(self):
        house = nested_house()
        self.assertEqual(seen_by(house, "ann"), [0, 1, 2, 3, 4])

    def test_from_a_root_within(self):
        house = nested_house()
        for root, seen in ((1, [1, 2, 3]), (2, [2, 3]), (3, [3]), (4, [4])):
            house.put_root("ben", root)
            self.assertEqual(seen_by(house, "ben"), seen)
        self.assertEqual(seen_by(house, "ann"), [0, 1, 2, 3, 4])

    def test_standing_and_rights_are_no_matter(self):
        house = new_house()
        folder(house, 0, "a", "ann", "", "")
        folder(house, 1, "b", "ann", "", "")
        house.put_standing("ben", 2)
        self.assertEqual(seen_by(house, "ben"), [0, 1, 2])

    def test_what_is_covered_is_not_seen_nor_what_lies_in_it(self):
        house = covered_house()
        self.assertEqual(seen_by(house, "ann"), [0, 1, 4, 9, 11, 12])

    def test_from_roots_in_what_is_covered(self):
        house = covered_house()
        for root, seen in ((1, [1, 9, 11, 12]), (3, [3]), (8, [8]), (4, [4]), (12, [12]), (13, [13, 14]), (14, [14])):
            with self.subTest(root=root):
                house.put_root("ben", root)
                self.assertEqual(seen_by(house, "ben"), seen)

    def test_from_each_root_of_one_stack_the_same_is_seen(self):
        house = covered_house()
        for root in (2, 7, 9):
            house.put_root("ben", root)
            self.assertEqual(seen_by(house, "ben"), [9, 11, 12])
        for root in (10, 11):
            house.put_root("ben", root)
            self.assertEqual(seen_by(house, "ben"), [11, 12])

    def test_a_tree_over_the_first_root(self):
        house = nested_house()
        hung(house, "one", 0)
        folder(house, 7, "x")
        self.assertEqual(seen_by(house, "ann"), [7, 8])
        house.put_root("ann", 1)
        self.assertEqual(seen_by(house, "ann"), [1, 2, 3])

    def test_taken_down(self):
        house = covered_house()
        house.take_tree("two")
        self.assertEqual(seen_by(house, "ann"), [0, 1, 4, 7, 8])
        house.take_tree("one")
        self.assertEqual(seen_by(house, "ann"), [0, 1, 2, 3, 4])

    def test_a_folder_that_was_dropped(self):
        house = nested_house()
        house.things.drop_name(2, "c")
        self.assertEqual(seen_by(house, "ann"), [0, 1, 2, 4])
        house.put_standing("ann", 3)
        self.assertEqual(seen_by(house, "ann"), [0, 1, 2, 4])

    def test_a_folder_that_was_moved(self):
        house = nested_house()
        house.put_root("ben", 1)
        house.things.put_name(4, "q", 2)
        self.assertEqual(seen_by(house, "ben"), [1])
        self.assertEqual(seen_by(house, "ann"), [0, 1, 2, 3, 4])

    def test_truths(self):
        house = nested_house()
        house.put_root("ben", 4)
        self.assertIs(is_seen(house, "ann", 3), True)
        self.assertIs(is_seen(house, "ben", 3), False)
        hung(house, "one", 2)
        self.assertIs(is_seen(house, "ann", 2), False)
        self.assertIs(is_seen(house, "ann", 3), False)


class TreesOfThings(unittest.TestCase):

    def test_of_folders_files_and_leads(self):
        house = covered_house()
        in_one = file(house, 8, "f")
        in_two = lead(house, 10, "l", "/")
        self.assertEqual([tree_of(house, number) for number in range(7)], ["main"] * 7)
        self.assertEqual([tree_of(house, number) for number in range(7, 15)],
                         ["one", "one", "two", "two", "three", "three", "free", "free"])
        self.assertEqual((tree_of(house, in_one), tree_of(house, in_two)), ("one", "two"))

    def test_a_file_by_its_first_place(self):
        house = covered_house()
        number = file(house, 12, "a")
        self.assertEqual(tree_of(house, number), "three")
        house.things.put_name(8, "z", number)
        self.assertEqual(tree_of(house, number), "one")
        house.things.put_name(3, "z", number)
        self.assertEqual(tree_of(house, number), "main")

    def test_none_for_what_was_dropped(self):
        house = nested_house()
        for where, name, number in ((2, "c", 3), (1, "f", 5), (4, "l", 6)):
            house.things.drop_name(where, name)
            self.assertIsNone(tree_of(house, number))

    def test_none_for_what_lies_in_a_folder_without_a_place(self):
        house = nested_house()
        house.things.drop_name(1, "b")
        self.assertIsNone(tree_of(house, 2))
        self.assertIsNone(tree_of(house, 3))

    def test_hangings_are_no_matter(self):
        house = covered_house()
        before = [tree_of(house, number) for number in range(15)]
        for tree in ("three", "two", "one"):
            house.take_tree(tree)
            self.assertEqual([tree_of(house, number) for number in range(15)], before)


class Below(unittest.TestCase):

    def test_itself_and_what_it_lies_in(self):
        house = nested_house()
        below = [(one, other) for one in range(5) for other in range(5) if is_below(house, one, other)]
        self.assertEqual(below, [(0, 0), (1, 0), (1, 1), (2, 0), (2, 1), (2, 2), (3, 0), (3, 1), (3, 2), (3, 3),
                                 (4, 0), (4, 4)])

    def test_truths(self):
        house = nested_house()
        self.assertIs(is_below(house, 3, 1), True)
        self.assertIs(is_below(house, 1, 3), False)

    def test_hangings_do_not_count(self):
        house = covered_house()
        for one, other, below in ((7, 2, False), (8, 2, False), (8, 0, False), (9, 7, False), (2, 7, False),
                                  (8, 7, True), (10, 9, True), (12, 11, True), (12, 10, False), (3, 2, True)):
            with self.subTest(one=one, other=other):
                self.assertIs(is_below(house, one, other), below)

    def test_a_folder_that_was_dropped(self):
        house = nested_house()
        house.things.drop_name(1, "b")
        self.assertIs(is_below(house, 3, 2), True)
        self.assertIs(is_below(house, 3, 1), False)
        self.assertIs(is_below(house, 2, 2), True)


class Deep(unittest.TestCase):

    def test_folders_in_one_another(self):
        house = new_house()
        for number in range(250):
            folder(house, number, "a")
        self.assertIs(is_seen(house, "ann", 250), True)
        self.assertEqual(tree_of(house, 250), "main")
        self.assertIs(is_below(house, 250, 0), True)
        self.assertIs(is_below(house, 0, 250), False)


class Refusals(unittest.TestCase):

    def setUp(self):
        self.house = covered_house()
        self.before = picture(self.house)

    def tearDown(self):
        self.assertEqual(picture(self.house), self.before)

    def test_no_thing(self):
        for number in NO_NUMBERS + [15, 16]:
            with self.subTest(number=number):
                for question in (top_of, base_of, stack_of, tree_of):
                    self.assertRaises(NoThing, question, self.house, number)
                self.assertRaises(NoThing, is_seen, self.house, "ann", number)
                self.assertRaises(NoThing, is_below, self.house, number, 0)
                self.assertRaises(NoThing, is_below, self.house, 0, number)
                self.assertRaises(NoThing, is_below, self.house, number, number)

    def test_no_asker_goes_ahead_of_no_thing(self):
        for asker in NO_TEXTS + ["", "carl", "main", "Ann"]:
            for number in (0, 2, 15, -1, None, True, [0], "0"):
                with self.subTest(asker=asker, number=number):
                    self.assertRaises(NoAsker, is_seen, self.house, asker, number)


if __name__ == "__main__":
    unittest.main()
