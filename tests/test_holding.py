"""Points 28 to 31: holds, and what has become of a thing."""

import unittest

from houses import NO_NUMBERS, NO_TEXTS, HouseCase, outcome, picture
from leadnames.errors import LeadError
from leadnames.hanging import hang, make_tree, set_root, stand, take
from leadnames.holding import hold, holds, let_go, read_held, rights_held, state_of, thing_held, write_held
from leadnames.house import House
from leadnames.making import drop, make_file, make_folder, make_lead, name_file, read, set_rights, write
from leadnames.moving import move

EIGHT = ("", "l", "g", "w", "lg", "lw", "gw", "lgw")
NO_HOLDS = NO_NUMBERS + [1, 2, 3, 99, 10 ** 9]


def held_house():
    """File 1 at /f, folder 2 at /a, lead 3 at /l for f; all open to all."""
    house = House("ann")
    house.enroll("ben")
    set_rights(house, "ann", "/", "lgw", "lgw")
    make_file(house, "ann", "/f", "text", "lgw", "lgw")
    make_folder(house, "ann", "/a", "lgw", "lgw")
    make_lead(house, "ann", "/l", "f")
    return house


class MakingHolds(HouseCase):

    def test_done(self):
        house = held_house()
        told, changes = self.done(house, hold, "ben", "/f", "lw")
        self.assertEqual(told, 0)
        self.assertEqual(changes, {"holds": [0], ("hold", 0): (1, "lw")})
        told, changes = self.done(house, hold, "ann", "/l", "")
        self.assertEqual(told, 1)
        self.assertEqual(changes, {"holds": [0, 1], ("hold", 1): (1, "")})

    def test_each_of_the_eight_rights(self):
        for mine in EIGHT:
            for rest in EIGHT:
                house = held_house()
                set_rights(house, "ann", "/f", mine, rest)
                for asker, may in (("ann", mine), ("ben", rest)):
                    for rights in EIGHT:
                        if "l" in rights and "l" not in may:
                            self.no_deed(house, "look", hold, asker, "/f", rights)
                        elif "w" in rights and "w" not in may:
                            self.no_deed(house, "write", hold, asker, "/f", rights)
                        else:
                            number = hold(house, asker, "/f", rights)
                            self.assertEqual((thing_held(house, number), rights_held(house, number)), (1, rights))

    def test_look_ahead_of_write(self):
        house = held_house()
        set_rights(house, "ann", "/f", "", "")
        self.no_deed(house, "look", hold, "ann", "/f", "lgw")
        self.no_deed(house, "write", hold, "ann", "/f", "gw")
        self.assertEqual(hold(house, "ann", "/f", "g"), 0)

    def test_folder(self):
        house = held_house()
        make_lead(house, "ann", "/k", "a")
        make_folder(house, "ann", "/b", "", "")
        for rights in EIGHT:
            for path in ("/", "/a", "/a/", "/k", "/b", "..", "."):
                self.no_deed(house, "folder", hold, "ann", path, rights)

    def test_no_way(self):
        house = held_house()
        make_lead(house, "ann", "/loop", "loop")
        self.no_way(house, ("failed", 1, "none"), hold, "ann", "/none", "l")
        self.no_way(house, ("failed", 2, "flat"), hold, "ann", "/f/", "l")
        self.no_way(house, ("ring", [4]), hold, "ann", "/loop", "l")
        set_rights(house, "ann", "/a", "lw", "lw")
        self.no_way(house, ("failed", 2, "shut"), hold, "ann", "/a/f", "l")

    def test_refused_ahead_of_all_else(self):
        wrong = (NO_TEXTS + ["carl", ""], NO_TEXTS + ["", "A", "..."], NO_TEXTS + ["x", "gl", "-"])
        names = ("NoAsker", "NoPath", "NoRights")
        for good in (("ann", "/f", "lw"), ("ben", "/none", "l"), ("ben", "/a", "w")):
            house = held_house()
            for chosen in range(1, 8):
                due = [place for place in range(3) if chosen & (1 << place)]
                for turn in range(25):
                    handed = [wrong[place][turn % len(wrong[place])] if place in due else good[place]
                              for place in range(3)]
                    self.refused(house, names[due[0]], hold, *handed)

    def test_numbers_are_used_once(self):
        house = held_house()
        self.assertEqual([hold(house, "ann", "/f", "l") for again in range(3)], [0, 1, 2])
        let_go(house, 2)
        let_go(house, 0)
        self.assertEqual(hold(house, "ben", "/f", "w"), 3)
        for number in (1, 3):
            let_go(house, number)
        self.assertEqual(holds(house), [])
        self.assertEqual(hold(house, "ann", "/f", ""), 4)

    def test_what_is_refused_uses_none(self):
        house = held_house()
        hold(house, "ann", "/f", "l")
        set_rights(house, "ann", "/f", "", "")
        self.no_deed(house, "look", hold, "ann", "/f", "l")
        self.no_deed(house, "write", hold, "ann", "/f", "w")
        self.no_deed(house, "folder", hold, "ann", "/", "")
        self.no_way(house, ("failed", 1, "none"), hold, "ann", "/none", "")
        self.assertEqual(outcome(hold, house, "carl", "/f", ""), "NoAsker")
        self.assertEqual(hold(house, "ann", "/f", ""), 1)

    def test_more_than_forty(self):
        house = held_house()
        self.assertEqual([hold(house, "ann", "/f", "lw") for again in range(45)], list(range(45)))
        self.assertEqual(holds(house), list(range(45)))


class ByHolds(HouseCase):

    def test_read_and_write_by_rights(self):
        for rights in EIGHT:
            house = held_house()
            number = hold(house, "ben", "/f", rights)
            if "l" in rights:
                self.assertEqual(self.done(house, read_held, number), ("text", {}))
            else:
                self.no_deed(house, "look", read_held, number)
            if "w" in rights:
                told, changes = self.done(house, write_held, number, " new ")
                self.assertIsNone(told)
                self.assertEqual(changes, {("thing", 1): ("file", "ann", ("lgw", "lgw"), " new ")})
                self.assertEqual(read(house, "ann", "/f"), " new ")
            else:
                self.no_deed(house, "write", write_held, number, " new ")

    def test_behind_changed_rights(self):
        house = held_house()
        number = hold(house, "ben", "/f", "lw")
        set_rights(house, "ann", "/f", "", "")
        set_rights(house, "ann", "/", "", "")
        self.assertEqual(read_held(house, number), "text")
        write_held(house, number, "new")
        self.assertEqual(read_held(house, number), "new")
        self.assertEqual(rights_held(house, number), "lw")

    def test_rights_won_later_do_not_count(self):
        house = held_house()
        set_rights(house, "ann", "/f", "", "")
        number = hold(house, "ann", "/f", "g")
        set_rights(house, "ann", "/f", "lgw", "lgw")
        self.no_deed(house, "look", read_held, number)
        self.no_deed(house, "write", write_held, number, "new")
        self.assertEqual(rights_held(house, number), "g")

    def test_behind_a_dropped_name(self):
        house = held_house()
        number = hold(house, "ben", "/f", "lw")
        drop(house, "ann", "/f")
        self.assertEqual(read_held(house, number), "text")
        write_held(house, number, "new")
        self.assertEqual((read_held(house, number), thing_held(house, number)), ("new", 1))
        make_file(house, "ann", "/f", "another")
        self.assertEqual(read_held(house, number), "new")

    def test_behind_moves_and_a_thing_moved_over_it(self):
        house = held_house()
        number = hold(house, "ben", "/f", "l")
        move(house, "ann", "/f", "/a/g")
        self.assertEqual((read_held(house, number), thing_held(house, number)), ("text", 1))
        make_file(house, "ann", "/h", "other")
        move(house, "ann", "/h", "/a/g")
        self.assertEqual((read_held(house, number), thing_held(house, number)), ("text", 1))

    def test_a_text_changed_otherwise(self):
        house = held_house()
        one, other = hold(house, "ben", "/f", "l"), hold(house, "ann", "/f", "w")
        write(house, "ann", "/f", "new")
        self.assertEqual(read_held(house, one), "new")
        write_held(house, other, "newer")
        self.assertEqual(read_held(house, one), "newer")

    def test_let_go(self):
        house = held_house()
        one, other = hold(house, "ben", "/f", "lw"), hold(house, "ben", "/f", "l")
        told, changes = self.done(house, let_go, one)
        self.assertIsNone(told)
        self.assertEqual(changes, {"holds": [other], ("hold", one): None})
        for deed, handed in ((read_held, ()), (write_held, ("new",)), (thing_held, ()), (rights_held, ()),
                             (let_go, ())):
            self.refused(house, "NoHold", deed, one, *handed)
        self.assertEqual(read_held(house, other), "text")

    def test_texts_of_60_and_61_signs(self):
        house = held_house()
        number = hold(house, "ann", "/f", "lw")
        write_held(house, number, "~" * 60)
        self.assertEqual(read_held(house, number), "~" * 60)
        self.refused(house, "NoText", write_held, number, "~" * 61)
        write_held(house, number, "")
        self.assertEqual(read_held(house, number), "")

    def test_holds_is_sorted_and_a_new_list(self):
        house = held_house()
        for again in range(12):
            hold(house, "ann", "/f", "l")
        let_go(house, 3)
        self.assertEqual(holds(house), [0, 1, 2, 4, 5, 6, 7, 8, 9, 10, 11])
        holds(house).append(3)
        holds(house).clear()
        self.assertEqual(holds(house), [0, 1, 2, 4, 5, 6, 7, 8, 9, 10, 11])

    def test_two_houses_share_nothing(self):
        one, other = held_house(), held_house()
        hold(one, "ann", "/f", "l")
        self.assertEqual(holds(other), [])
        self.refused(other, "NoHold", read_held, 0)
        self.assertEqual(hold(other, "ann", "/f", "l"), 0)


class NoHolds(HouseCase):

    def test_each(self):
        house = held_house()
        hold(house, "ann", "/f", "lw")
        before = picture(house)
        for wrong in NO_HOLDS:
            for deed, handed in ((read_held, ()), (write_held, ("new",)), (thing_held, ()), (rights_held, ()),
                                 (let_go, ())):
                with self.subTest(deed=deed.__name__, wrong=wrong):
                    self.assertEqual(outcome(deed, house, wrong, *handed), "NoHold")
        self.assertEqual(picture(house), before)

    def test_truths_are_none(self):
        house = held_house()
        hold(house, "ann", "/f", "lw")
        hold(house, "ann", "/f", "lw")
        for deed, handed in ((read_held, ()), (write_held, ("new",)), (thing_held, ()), (rights_held, ()),
                             (let_go, ())):
            for truth in (True, False):
                self.refused(house, "NoHold", deed, truth, *handed)

    def test_of_its_own_class_alone(self):
        with self.assertRaises(LeadError) as taken:
            read_held(held_house(), 0)
        self.assertEqual([kind.__name__ for kind in type(taken.exception).__mro__[:3]],
                         ["NoHold", "LeadError", "ValueError"])

    def test_ahead_of_no_text_and_that_ahead_of_write(self):
        house = held_house()
        number = hold(house, "ann", "/f", "l")
        for wrong in NO_TEXTS + ["a" * 61]:
            for no_hold in (None, True, 7, "0", []):
                self.refused(house, "NoHold", write_held, no_hold, wrong)
            self.refused(house, "NoText", write_held, number, wrong)
        self.no_deed(house, "write", write_held, number, "new")


class States(HouseCase):

    def test_a_file(self):
        house = held_house()
        self.assertEqual(state_of(house, 1), "named")
        name_file(house, "ann", "/f", "/g")
        drop(house, "ann", "/f")
        self.assertEqual(state_of(house, 1), "named")
        number = hold(house, "ann", "/g", "")
        self.assertEqual(state_of(house, 1), "named")
        drop(house, "ann", "/g")
        self.assertEqual(state_of(house, 1), "held")
        let_go(house, number)
        self.assertEqual(state_of(house, 1), "gone")

    def test_a_file_of_two_holds(self):
        house = held_house()
        one, other = hold(house, "ann", "/f", ""), hold(house, "ben", "/f", "l")
        drop(house, "ann", "/f")
        let_go(house, other)
        self.assertEqual(state_of(house, 1), "held")
        let_go(house, one)
        self.assertEqual(state_of(house, 1), "gone")

    def test_a_file_moved_over(self):
        house = held_house()
        make_file(house, "ann", "/g", "")
        hold(house, "ann", "/f", "l")
        move(house, "ann", "/g", "/f")
        self.assertEqual((state_of(house, 1), state_of(house, 4)), ("held", "named"))
        make_file(house, "ann", "/h", "")
        move(house, "ann", "/h", "/f")
        self.assertEqual((state_of(house, 4), state_of(house, 5)), ("gone", "named"))

    def test_a_folder(self):
        house = held_house()
        self.assertEqual(state_of(house, 2), "named")
        stand(house, "ben", "/a")
        self.assertEqual(state_of(house, 2), "named")
        drop(house, "ann", "/a")
        self.assertEqual(state_of(house, 2), "held")
        stand(house, "ben", "/")
        self.assertEqual(state_of(house, 2), "gone")

    def test_a_standing_given_up_by_a_root(self):
        house = held_house()
        stand(house, "ben", "/a")
        drop(house, "ann", "/a")
        self.assertEqual(state_of(house, 2), "held")
        set_root(house, "ben", "/")
        self.assertEqual(state_of(house, 2), "gone")

    def test_of_two_standings(self):
        house = held_house()
        stand(house, "ann", "/a")
        stand(house, "ben", "/a")
        drop(house, "ann", "/a")
        stand(house, "ann", "/")
        self.assertEqual(state_of(house, 2), "held")
        stand(house, "ben", "/")
        self.assertEqual(state_of(house, 2), "gone")

    def test_a_lead(self):
        house = held_house()
        self.assertEqual(state_of(house, 3), "named")
        move(house, "ann", "/l", "/k")
        self.assertEqual(state_of(house, 3), "named")
        drop(house, "ann", "/k")
        self.assertEqual(state_of(house, 3), "gone")

    def test_a_trees_root(self):
        house = held_house()
        self.assertEqual(state_of(house, 0), "named")
        root = make_tree(house, "ann", "wood")
        self.assertEqual(state_of(house, root), "named")
        hang(house, "ann", "wood", "/a")
        self.assertEqual((state_of(house, root), state_of(house, 2)), ("named", "named"))
        set_root(house, "ben", "/a")
        take(house, "ann", "wood")
        self.assertEqual(state_of(house, root), "named")

    def test_what_lies_in_a_tree_that_is_not_hung(self):
        house = held_house()
        make_tree(house, "ann", "wood")
        hang(house, "ann", "wood", "/a")
        number = make_folder(house, "ann", "/a/b")
        take(house, "ann", "wood")
        self.assertEqual(state_of(house, number), "named")

    def test_a_root_goes_on_being_named(self):
        house = held_house()
        set_root(house, "ben", "/a")
        self.assertEqual(state_of(house, 2), "named")
        self.no_deed(house, "busy", drop, "ann", "/a")
        self.assertEqual(state_of(house, 2), "named")

    def test_a_root_without_a_place(self):
        # No deeds make one: put together out of plain parts.
        house = held_house()
        house.put_root("ben", 2)
        house.things.drop_name(0, "a")
        self.assertEqual(state_of(house, 2), "held")

    def test_a_hold_upon_another_file_does_not_count(self):
        house = held_house()
        make_file(house, "ann", "/g", "")
        hold(house, "ann", "/g", "")
        drop(house, "ann", "/f")
        self.assertEqual(state_of(house, 1), "gone")

    def test_a_thing_that_is_gone_is_told_of(self):
        house = held_house()
        drop(house, "ann", "/f")
        self.assertEqual((house.kind_of(1), house.owner_of(1), house.text_of(1)), ("file", "ann", "text"))
        self.assertEqual((house.rights_of(1), house.places_of(1), house.place_of(1)), (("lgw", "lgw"), [], None))

    def test_no_thing(self):
        house = held_house()
        hold(house, "ann", "/f", "l")
        for wrong in NO_NUMBERS + [4, 5, 10 ** 9]:
            self.refused(house, "NoThing", state_of, wrong)


if __name__ == "__main__":
    unittest.main()
