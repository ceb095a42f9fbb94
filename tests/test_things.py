import unittest

from leadnames.errors import NoThing
from leadnames.things import FILE, FOLDER, LEAD, Things


def small_house():
    """Folder 0 with folder 1, file 2 and lead 3, none of which has a place yet."""
    things = Things()
    things.add_folder("ann", "lgw", "lg")
    things.add_folder("ben", "lg", "")
    things.add_file("ann", "some text", "lw", "l")
    things.add_lead("ben", "../a")
    return things


def names_and_places_agree(things):
    named = []
    placed = []
    for number in range(things.many()):
        named += [((number, name), things.child(number, name)) for name in things.names_in(number)]
        placed += [(place, number) for place in things.places_of(number)]
    return sorted(named) == sorted(placed)


class Kinds(unittest.TestCase):

    def test_numbers_rise_from_nought(self):
        things = Things()
        self.assertEqual(things.many(), 0)
        told = [things.add_folder("ann", "", ""), things.add_lead("ann", "/"), things.add_file("ann", "", "", ""),
                things.add_folder("ann", "", "")]
        self.assertEqual(told, [0, 1, 2, 3])
        self.assertEqual(things.many(), 4)
        self.assertEqual([things.at(number).number for number in told], told)

    def test_a_number_is_used_once(self):
        things = small_house()
        things.put_name(0, "a", 2)
        things.drop_name(0, "a")
        self.assertEqual(things.add_file("ann", "", "", ""), 4)
        self.assertEqual(things.at(2).text, "some text")

    def test_folder(self):
        thing = small_house().at(1)
        self.assertEqual((thing.kind, thing.owner, thing.mine, thing.rest, thing.text), (FOLDER, "ben", "lg", "", ""))

    def test_file(self):
        thing = small_house().at(2)
        self.assertEqual((thing.kind, thing.owner, thing.mine, thing.rest), (FILE, "ann", "lw", "l"))
        self.assertEqual(thing.text, "some text")

    def test_lead_has_a_path_and_no_rights(self):
        thing = small_house().at(3)
        self.assertEqual((thing.kind, thing.owner, thing.mine, thing.rest), (LEAD, "ben", "", ""))
        self.assertEqual(thing.text, "../a")

    def test_kinds_are_the_words_told(self):
        self.assertEqual((FOLDER, FILE, LEAD), ("folder", "file", "lead"))

    def test_rights_of_owner_and_others(self):
        things = small_house()
        self.assertEqual(things.at(0).rights_for("ann"), "lgw")
        self.assertEqual(things.at(0).rights_for("ben"), "lg")
        self.assertEqual(things.at(1).rights_for("ben"), "lg")
        self.assertEqual(things.at(1).rights_for("ann"), "")
        self.assertEqual(things.at(3).rights_for("ben"), "")

    def test_no_thing(self):
        things = small_house()
        for number in (-1, 4, 5, 10 ** 30, True, False, None, "0", "", [], [0], (), (0,), {}, {0: 0}):
            with self.subTest(number=number):
                self.assertRaises(NoThing, things.at, number)
                self.assertRaises(NoThing, things.places_of, number)
                self.assertRaises(NoThing, things.names_in, number)
        self.assertRaises(NoThing, Things().at, 0)


class Places(unittest.TestCase):

    def test_none_at_first(self):
        things = small_house()
        for number in range(4):
            self.assertEqual(things.places_of(number), [])
            self.assertIsNone(things.place_of(number))
            self.assertEqual(things.names_in(number), [])
        self.assertIsNone(things.child(0, "a"))

    def test_a_name_is_a_place(self):
        things = small_house()
        things.put_name(0, "b", 1)
        self.assertEqual(things.child(0, "b"), 1)
        self.assertEqual(things.places_of(1), [(0, "b")])
        self.assertEqual(things.place_of(1), (0, "b"))
        self.assertEqual(things.names_in(0), ["b"])

    def test_a_file_has_many_places_and_they_are_sorted(self):
        things = small_house()
        things.put_name(1, "a", 2)
        things.put_name(0, "z", 2)
        things.put_name(0, "c", 2)
        self.assertEqual(things.places_of(2), [(0, "c"), (0, "z"), (1, "a")])
        self.assertEqual(things.place_of(2), (0, "c"))
        self.assertEqual(things.names_in(0), ["c", "z"])
        self.assertTrue(names_and_places_agree(things))

    def test_folder_and_lead_have_one_place(self):
        for number in (1, 3):
            things = small_house()
            more = things.add_folder("ann", "", "")
            things.put_name(0, "a", number)
            things.put_name(more, "b", number)
            self.assertEqual(things.places_of(number), [(more, "b")])
            self.assertIsNone(things.child(0, "a"))
            self.assertTrue(names_and_places_agree(things))

    def test_a_name_stands_for_one_thing(self):
        things = small_house()
        things.put_name(0, "a", 2)
        things.put_name(0, "a", 3)
        self.assertEqual(things.child(0, "a"), 3)
        self.assertEqual(things.places_of(2), [])
        self.assertTrue(names_and_places_agree(things))

    def test_the_same_name_again_changes_nothing(self):
        for number in (1, 2, 3):
            things = small_house()
            things.put_name(0, "a", number)
            things.put_name(0, "a", number)
            self.assertEqual(things.places_of(number), [(0, "a")])
            self.assertEqual(things.child(0, "a"), number)

    def test_drop_name(self):
        things = small_house()
        things.put_name(0, "a", 2)
        things.put_name(0, "b", 2)
        things.drop_name(0, "a")
        self.assertEqual(things.places_of(2), [(0, "b")])
        self.assertIsNone(things.child(0, "a"))
        things.drop_name(0, "a")
        self.assertEqual(things.names_in(0), ["b"])
        self.assertTrue(names_and_places_agree(things))

    def test_told_lists_are_new(self):
        things = small_house()
        things.put_name(0, "a", 2)
        things.names_in(0).append("b")
        things.places_of(2).append((0, "b"))
        self.assertEqual(things.names_in(0), ["a"])
        self.assertEqual(things.places_of(2), [(0, "a")])

    def test_two_stores_share_nothing(self):
        one, other = small_house(), small_house()
        one.put_name(0, "a", 2)
        one.add_folder("ann", "", "")
        self.assertEqual(other.names_in(0), [])
        self.assertEqual(other.many(), 4)


if __name__ == "__main__":
    unittest.main()
