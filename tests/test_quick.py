"""Points 32 and 33: the quick walk beside the plain one, and what it looked up."""

import random
import unittest

from drawn import ASKERS, begun_house, do_deed, drawn_deed, drawn_path, known_path
from houses import NO_TEXTS, HouseCase, outcome, picture, shown
from leadnames.errors import LeadError
from leadnames.hanging import hang, make_tree, set_root, stand, take
from leadnames.holding import hold, let_go, read_held, write_held
from leadnames.house import House
from leadnames.making import drop, look, make_file, make_folder, make_lead, name_file, read, set_rights, write
from leadnames.moving import move
from leadnames.quick import Quick
from leadnames.walks import Failed, Found, Ring, walk


def quick_house():
    """Folders /a 1, /a/b 2, file /a/b/f 3, leads /l 4 for a/b, /x 5 for y, /y 6 for x, tree wood 7, folder /c 8."""
    house = House("ann")
    house.enroll("ben")
    set_rights(house, "ann", "/", "lgw", "lgw")
    make_folder(house, "ann", "/a", "lgw", "lgw")
    make_folder(house, "ann", "/a/b", "lgw", "lgw")
    make_file(house, "ann", "/a/b/f", "text", "lgw", "lgw")
    make_lead(house, "ann", "/l", "a/b")
    make_lead(house, "ann", "/x", "y")
    make_lead(house, "ann", "/y", "x")
    make_tree(house, "ann", "wood")
    make_folder(house, "ann", "/c", "lgw", "lgw")
    return house


PATHS = ["/", ".", "..", "a", "/a/b", "a/b/f", "/l", "l/f", "/l/../b/f", "x", "/y/a", "none", "a/none", "a/b/f/", "/c",
         "c/..", "c/x", "new", "/new/b/f", "a//b/./f", "b/f", "b", "c/a/b/f", "m", "m/f", "a/b/g"]

# Each changes what some walk tells.
CHANGES = [
    ("make_folder", lambda house: make_folder(house, "ben", "/new", "lgw", "lgw")),
    ("make_file", lambda house: make_file(house, "ben", "/new", "")),
    ("make_lead", lambda house: make_lead(house, "ben", "/new", "a")),
    ("name_file", lambda house: name_file(house, "ben", "/a/b/f", "/a/b/g")),
    ("drop a file", lambda house: drop(house, "ben", "/a/b/f")),
    ("drop a lead", lambda house: drop(house, "ben", "/l")),
    ("drop a folder", lambda house: drop(house, "ben", "/c")),
    ("shut", lambda house: set_rights(house, "ann", "/a", "", "")),
    ("move a folder", lambda house: move(house, "ben", "/a", "/c/a")),
    ("move a lead", lambda house: move(house, "ben", "/l", "/m")),
    ("move over", lambda house: move(house, "ben", "/l", "/x")),
    ("hang", lambda house: hang(house, "ben", "wood", "/a")),
    ("hang over the root", lambda house: hang(house, "ben", "wood", "/")),
    ("stand", lambda house: stand(house, "ben", "/a")),
    ("stand by ann", lambda house: stand(house, "ann", "/a")),
    ("set_root", lambda house: set_root(house, "ben", "/a")),
]

# These change no walk, but are done.
OTHERS = [
    ("write", lambda house: write(house, "ben", "/a/b/f", "new")),
    ("make_tree", lambda house: make_tree(house, "ben", "new")),
    ("hold", lambda house: hold(house, "ben", "/a/b/f", "lw")),
    ("enroll", lambda house: house.enroll("carl")),
    ("move to itself", lambda house: move(house, "ann", "/a", "/a")),
    ("set_rights", lambda house: set_rights(house, "ann", "/a", "lgw", "lgw")),
]

REFUSED = [
    lambda house: make_folder(house, "ann", "/a"),
    lambda house: make_folder(house, "ann", "/none/a"),
    lambda house: make_file(house, "ann", "/", ""),
    lambda house: make_lead(house, "ann", "/new", "a" * 9),
    lambda house: name_file(house, "ann", "/a/b/f", "/a"),
    lambda house: drop(house, "ann", "/a"),
    lambda house: set_rights(house, "ben", "/a", "", ""),
    lambda house: read(house, "ann", "/a"),
    lambda house: write(house, "ann", "/a", "text"),
    lambda house: look(house, "ann", "/none"),
    lambda house: move(house, "ann", "/a", "/a/b/c"),
    lambda house: move(house, "ann", "/c", "/a"),
    lambda house: make_tree(house, "ann", "wood"),
    lambda house: hang(house, "ann", "main", "/a"),
    lambda house: take(house, "ann", "wood"),
    lambda house: stand(house, "ann", "/none"),
    lambda house: set_root(house, "ann", "/a/b/f"),
    lambda house: hold(house, "ann", "/a", "l"),
    lambda house: read_held(house, 0),
    lambda house: write_held(house, 0, "text"),
    lambda house: let_go(house, 0),
    lambda house: house.enroll("ann"),
    lambda house: house.enroll("A"),
]


def questions(askers=ASKERS):
    return [(asker, path, last) for asker in askers for path in PATHS for last in (True, False)]


class Beside(HouseCase):

    def check_all(self, quick, house, label=""):
        for asker, path, last in questions(house.askers()):
            with self.subTest(label=label, asker=asker, path=path, last=last):
                plain = walk(house, asker, path, last)
                told = quick.walk(asker, path, last)
                self.assertIs(type(told), type(plain))
                self.assertEqual(vars(told), vars(plain))

    def test_a_new_walker(self):
        house = quick_house()
        self.check_all(Quick(house), house)

    def test_asked_again(self):
        house = quick_house()
        quick = Quick(house)
        for again in range(3):
            self.check_all(quick, house)

    def test_last_by_place_by_name_and_left_out(self):
        house = quick_house()
        for order in (1, -1):
            quick = Quick(house)
            for again in range(2):
                told = [shown(quick.walk("ann", "/l", True)), shown(quick.walk("ann", "/l", False)),
                        shown(quick.walk("ann", "/l")), shown(quick.walk("ann", "/l", last=False)),
                        shown(quick.walk("ann", "/l", last=True))][::order]
                self.assertEqual(told[::order], [("found", 2, "/a/b"), ("found", 4, "/l"), ("found", 2, "/a/b"),
                                                 ("found", 4, "/l"), ("found", 2, "/a/b")])

    def test_behind_each_kind_of_deed(self):
        for label, change in CHANGES + OTHERS:
            house = quick_house()
            quick, early, late = Quick(house), Quick(house), Quick(house)
            self.check_all(quick, house, label)
            late.walk("ann", "/a/b/f")
            change(house)
            self.check_all(quick, house, label)
            self.check_all(early, house, label)
            self.check_all(late, house, label)
            self.check_all(quick, house, label)

    def test_each_of_these_changes_some_walk(self):
        for label, change in CHANGES:
            house = quick_house()
            before = [shown(walk(house, *question)) for question in questions()]
            change(house)
            self.assertNotEqual([shown(walk(house, *question)) for question in questions()], before, label)

    def test_behind_a_tree_taken_down(self):
        house = quick_house()
        quick = Quick(house)
        hang(house, "ann", "wood", "/a")
        make_file(house, "ann", "/a/b", "")
        self.check_all(quick, house)
        take(house, "ben", "wood")
        self.check_all(quick, house)
        hang(house, "ann", "wood", "/c")
        self.check_all(quick, house)

    def test_a_change_and_its_undoing(self):
        house = quick_house()
        quick = Quick(house)
        for again in range(3):
            self.check_all(quick, house)
            move(house, "ann", "/a", "/new")
            self.check_all(quick, house)
            move(house, "ann", "/new", "/a")
        self.check_all(quick, house)

    def test_a_name_dropped_and_made_anew(self):
        house = quick_house()
        quick = Quick(house)
        self.assertEqual(quick.walk("ann", "/c").number, 8)
        drop(house, "ann", "/c")
        make_folder(house, "ann", "/c")
        self.assertEqual(quick.walk("ann", "/c").number, 9)

    def test_a_new_asker(self):
        house = quick_house()
        quick = Quick(house)
        self.assertEqual(outcome(quick.walk, "carl", "/a"), "NoAsker")
        house.enroll("carl")
        self.assertEqual(shown(quick.walk("carl", "/a")), ("found", 1, "/a"))

    def test_two_walkers_and_two_houses(self):
        one, other = quick_house(), quick_house()
        walkers = [Quick(one), Quick(other), Quick(one)]
        houses = [one, other, one]
        for change in (lambda: move(one, "ann", "/a", "/new"), lambda: drop(other, "ann", "/l"),
                       lambda: set_root(one, "ben", "/new"), lambda: hang(other, "ann", "wood", "/a")):
            for quick, house in zip(walkers, houses):
                self.check_all(quick, house)
            change()
            for quick, house in zip(walkers, houses):
                self.check_all(quick, house)

    def test_it_changes_nothing_of_the_house(self):
        house = quick_house()
        before, stamp = picture(house), house.stamp()
        quick = Quick(house)
        self.check_all(quick, house)
        quick.looked()
        self.assertEqual((picture(house), house.stamp()), (before, stamp))

    def test_by_drawn_deeds(self):
        lot = random.Random(3)
        for seed in range(3000, 3040):
            deeds = random.Random(seed)
            house = begun_house()
            walkers = [Quick(house), Quick(house)]
            asked = []
            for again in range(80):
                do_deed(house, *drawn_deed(deeds, house))
                asker = lot.choice(ASKERS)
                asked.append((asker, drawn_path(lot, 5), lot.choice((True, False))))
                asked.append((asker, known_path(lot, house, asker, ("folder", "file", "lead")), True))
                for question in asked[-4:] + lot.sample(asked, min(6, len(asked))):
                    quick = lot.choice(walkers)
                    self.assertEqual(shown(quick.walk(*question)), shown(walk(house, *question)), (seed, question))


class OnesOwn(HouseCase):

    def test_a_list_that_is_changed_changes_nothing_told_later(self):
        house = quick_house()
        quick = Quick(house)
        for again in range(3):
            told = quick.walk("ann", "/x")
            self.assertEqual((type(told), told.leads), (Ring, [5, 6]))
            told.leads.append(9)
            told.leads.reverse()

    def test_fields_that_are_changed_change_nothing_told_later(self):
        house = quick_house()
        quick = Quick(house)
        for again in range(3):
            found, failed, ring = quick.walk("ann", "/a"), quick.walk("ann", "none"), quick.walk("ann", "x")
            self.assertEqual((type(found), found.number, found.way), (Found, 1, "/a"))
            self.assertEqual((type(failed), failed.step, failed.reason), (Failed, 1, "none"))
            self.assertEqual((type(ring), ring.leads), (Ring, [5, 6]))
            found.number, found.way, failed.step, failed.reason, ring.leads = 9, "", 9, "", []

    def test_a_new_one_each_time(self):
        quick = Quick(quick_house())
        for path in ("/a", "none", "x"):
            told = [quick.walk("ann", path) for again in range(4)]
            self.assertEqual(len({id(one) for one in told}), 4)


class Refused(HouseCase):

    def test_each(self):
        house = quick_house()
        quick = Quick(house)
        for wrong in NO_TEXTS + ["carl", "", "Ann", "wood"]:
            self.assertEqual(outcome(quick.walk, wrong, "/a"), "NoAsker")
            self.assertEqual(outcome(quick.walk, wrong, "/a", False), "NoAsker")
        for wrong in NO_TEXTS + ["", "A", "...", "a b", "a" * 2001]:
            self.assertEqual(outcome(quick.walk, "ann", wrong), "NoPath")
            self.assertEqual(outcome(quick.walk, "ann", wrong, last=False), "NoPath")

    def test_no_asker_ahead_of_no_path(self):
        quick = Quick(quick_house())
        for asker in (None, "carl", [], True):
            for path in (None, "", [], "A", "/a"):
                self.assertEqual(outcome(quick.walk, asker, path), "NoAsker")

    def test_also_of_paths_asked_before(self):
        house = quick_house()
        quick = Quick(house)
        for again in range(2):
            quick.walk("ann", "/a")
            self.assertEqual(outcome(quick.walk, "carl", "/a"), "NoAsker")
            self.assertEqual(outcome(quick.walk, ["ann"], "/a"), "NoAsker")
            self.assertEqual(outcome(quick.walk, "ann", ["/a"]), "NoPath")
            self.assertEqual(outcome(quick.walk, "ann", "a" * 9), "NoPath")

    def test_what_is_refused_looks_nothing_up(self):
        quick = Quick(quick_house())
        for asker, path in (("carl", "/a/b"), ("ann", "A"), (None, None)):
            self.assertRaises(LeadError, quick.walk, asker, path)
        self.assertEqual(quick.looked(), 0)


class Looked(HouseCase):

    def test_nought_at_first(self):
        self.assertEqual(Quick(quick_house()).looked(), 0)

    def test_a_first_walk_looks_up_each_name(self):
        for path, names in (("/", 0), (".", 0), ("..", 0), ("/a", 1), ("a/b", 2), ("/a/b/f", 3), ("a/./b/../b/f", 4),
                            ("/l", 3), ("/l/f", 4), ("l/../../l/../b/f", 8), ("a//b", 2), ("c/../c/../c", 3)):
            house = quick_house()
            quick = Quick(house)
            self.assertIs(type(quick.walk("ann", path)), Found)
            self.assertEqual(quick.looked(), names, path)

    def test_a_lead_that_is_found_itself(self):
        quick = Quick(quick_house())
        quick.walk("ann", "/l", False)
        self.assertEqual(quick.looked(), 1)

    def test_asked_again_it_looks_nothing_up(self):
        house = quick_house()
        quick = Quick(house)
        for question in questions():
            quick.walk(*question)
        looked = quick.looked()
        self.assertGreater(looked, 40)
        for again in range(2):
            for question in questions():
                quick.walk(*question)
                self.assertEqual(quick.looked(), looked, question)

    def test_nor_behind_refused_deeds(self):
        house = quick_house()
        quick = Quick(house)
        for question in questions():
            quick.walk(*question)
        looked = quick.looked()
        for deed in REFUSED:
            self.assertRaises(LeadError, deed, house)
            self.assertRaises(LeadError, quick.walk, "carl", "/a")
            for question in questions():
                quick.walk(*question)
            self.assertEqual(quick.looked(), looked)

    def test_also_where_deeds_came_ahead(self):
        for label, change in CHANGES + OTHERS:
            house = quick_house()
            quick = Quick(house)
            quick.walk("ann", "/a/b/f")
            change(house)
            for question in questions():
                quick.walk(*question)
            looked = quick.looked()
            for question in questions():
                quick.walk(*question)
                self.assertEqual(quick.looked(), looked, (label, question))

    def test_an_answer_that_was_changed_is_not_looked_up_again(self):
        quick = Quick(quick_house())
        quick.walk("ann", "/x").leads.clear()
        looked = quick.looked()
        self.assertEqual(quick.walk("ann", "/x").leads, [5, 6])
        self.assertEqual(quick.looked(), looked)

    def test_of_another_asker_or_last_it_is_another_walk(self):
        house = quick_house()
        quick = Quick(house)
        stand(house, "ben", "/a")
        self.assertEqual(shown(quick.walk("ann", "a/b")), ("found", 2, "/a/b"))
        self.assertEqual(shown(quick.walk("ben", "a/b")), ("failed", 1, "none"))
        self.assertEqual(shown(quick.walk("ben", "b")), ("found", 2, "/a/b"))

    def test_never_less(self):
        house = quick_house()
        quick = Quick(house)
        looked = 0
        for label, change in CHANGES[:4] + OTHERS:
            for question in questions():
                quick.walk(*question)
                self.assertGreaterEqual(quick.looked(), looked)
                looked = quick.looked()
            outcome(change, house)

    def test_each_walker_counts_its_own(self):
        house = quick_house()
        one, other = Quick(house), Quick(house)
        one.walk("ann", "/a/b/f")
        self.assertEqual((one.looked(), other.looked()), (3, 0))
        walk(house, "ann", "/a/b/f")
        self.assertEqual((one.looked(), other.looked()), (3, 0))
        other.walk("ann", "/a/b")
        self.assertEqual((one.looked(), other.looked()), (3, 2))

    def test_behind_a_deed_it_looks_again(self):
        house = quick_house()
        quick = Quick(house)
        quick.walk("ann", "/a/b/f")
        move(house, "ann", "/a/b/f", "/a/b/g")
        self.assertEqual(shown(quick.walk("ann", "/a/b/f")), ("failed", 3, "none"))
        self.assertEqual(shown(quick.walk("ann", "/a/b/g")), ("found", 3, "/a/b/g"))


if __name__ == "__main__":
    unittest.main()
