"""Point 36: a house as one text of rows."""

import unittest

from houses import HouseCase, picture
from leadnames.hanging import hang, make_tree, set_root, stand, take
from leadnames.holding import hold, let_go, write_held
from leadnames.house import House
from leadnames.making import drop, make_file, make_folder, make_lead, name_file, set_rights, write
from leadnames.shows import shown

EIGHT = ("", "l", "g", "w", "lg", "lw", "gw", "lgw")


class Shown(HouseCase):

    def check(self, house, *rows):
        self.assertEqual(shown(house), "\n".join(rows))

    def test_a_new_house(self):
        self.check(House("zoe"), "asker zoe 0 0", "tree main 0 -", "folder 0 zoe lgw lg")

    def test_each_kind_of_row_in_its_order(self):
        house = House("mia")
        house.enroll("zoe")
        house.enroll("ann")
        make_folder(house, "mia", "/z", "lgw", "lgw")
        make_lead(house, "mia", "/b", "../z/./")
        make_file(house, "mia", "/z/f", "a text of  words", "lw", "g")
        make_tree(house, "ann", "wood")
        make_tree(house, "mia", "alder")
        hang(house, "ann", "wood", "/z")
        make_file(house, "ann", "/z/g", "")
        set_root(house, "zoe", "/z")
        stand(house, "mia", "/z")
        hold(house, "ann", "/z/g", "lw")
        hold(house, "ann", "/z/g", "")
        self.check(
            house,
            "asker ann 0 0",
            "asker mia 0 4",
            "asker zoe 4 4",
            "tree alder 5 -",
            "tree main 0 -",
            "tree wood 4 1",
            "folder 0 mia lgw lg",
            "folder 1 mia lgw lgw",
            "lead 2 mia ../z/./",
            "file 3 mia lw g a text of  words",
            "folder 4 ann lgw lg",
            "folder 5 mia lgw lg",
            "file 6 ann lgw - ",
            "name 0 b 2",
            "name 0 z 1",
            "name 1 f 3",
            "name 4 g 6",
            "hold 0 6 lw",
            "hold 1 6 -",
        )

    def test_rights(self):
        for mine in EIGHT:
            for rest in EIGHT:
                house = House("ann")
                make_folder(house, "ann", "/a", mine, rest)
                make_file(house, "ann", "/b", "text", mine, rest)
                self.check(house, "asker ann 0 0", "tree main 0 -", "folder 0 ann lgw lg",
                           "folder 1 ann " + (mine or "-") + " " + (rest or "-"),
                           "file 2 ann " + (mine or "-") + " " + (rest or "-") + " text", "name 0 a 1", "name 0 b 2")

    def test_rights_of_holds(self):
        for rights in EIGHT:
            house = House("ann")
            make_file(house, "ann", "/f", "")
            hold(house, "ann", "/f", rights)
            self.assertEqual(shown(house).splitlines()[-1], "hold 0 1 " + (rights or "-"))

    def test_texts(self):
        for text in ("", " ", "  ", " a", "a ", "a  b", "-", "/a", "~" * 60, "name 0 a 1"):
            house = House("ann")
            make_file(house, "ann", "/f", text)
            self.check(house, "asker ann 0 0", "tree main 0 -", "folder 0 ann lgw lg", "file 1 ann lgw - " + text,
                       "name 0 f 1")

    def test_things_that_are_gone(self):
        house = House("ann")
        make_folder(house, "ann", "/a", "l", "")
        make_file(house, "ann", "/b", "some text", "", "w")
        make_lead(house, "ann", "/c", "/")
        for name in "abc":
            drop(house, "ann", "/" + name)
        self.check(house, "asker ann 0 0", "tree main 0 -", "folder 0 ann lgw lg", "folder 1 ann l -",
                   "file 2 ann - w some text", "lead 3 ann /")

    def test_no_line_end_behind_the_last_row(self):
        house = House("ann")
        self.assertFalse(shown(house).endswith("\n"))
        make_file(house, "ann", "/f", "")
        drop(house, "ann", "/f")
        self.assertTrue(shown(house).endswith("\nfile 1 ann lgw - "))

    def test_more_than_ten_by_number_and_names_sorted(self):
        house = House("ann")
        for name in "lkjihgfedcba":
            make_folder(house, "ann", "/" + name)
        make_folder(house, "ann", "/aa")
        for path in ("/a/z", "/a/b", "/b/x"):
            make_lead(house, "ann", path, "/")
        rows = shown(house).splitlines()
        self.assertEqual([row.split()[1] for row in rows[2:19]], [str(number) for number in range(17)])
        self.assertEqual(rows[19:], ["name 0 a 12", "name 0 aa 13"] + ["name 0 " + name + " " + str(12 - number - 1)
                                                                      for number, name in enumerate("bcdefghijkl")]
                         + ["name 11 x 16", "name 12 b 15", "name 12 z 14"])

    def test_holds_rising(self):
        house = House("ann")
        make_file(house, "ann", "/f", "")
        for again in range(12):
            hold(house, "ann", "/f", "l")
        let_go(house, 4)
        self.assertEqual(shown(house).splitlines()[-11:],
                         ["hold " + str(number) + " 1 l" for number in range(12) if number != 4])

    def test_as_it_is_by_then(self):
        house = House("ann")
        make_file(house, "ann", "/f", "one")
        name_file(house, "ann", "/f", "/g")
        write(house, "ann", "/g", "two")
        set_rights(house, "ann", "/g", "lw", "l")
        number = hold(house, "ann", "/f", "w")
        write_held(house, number, "three")
        let_go(house, number)
        make_tree(house, "ann", "wood")
        hang(house, "ann", "wood", "/")
        take(house, "ann", "wood")
        self.check(house, "asker ann 0 0", "tree main 0 -", "tree wood 2 -", "folder 0 ann lgw lg",
                   "file 1 ann lw l three", "folder 2 ann lgw lg", "name 0 f 1", "name 0 g 1")

    def test_it_changes_nothing(self):
        house = House("ann")
        make_file(house, "ann", "/f", "one")
        before = picture(house)
        self.assertEqual(shown(house), shown(house))
        self.assertEqual(picture(house), before)


if __name__ == "__main__":
    unittest.main()
