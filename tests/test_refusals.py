"""Point 3 at each deed: what goes ahead of all else, in which order, and that the house tells the same behind it."""

import itertools
import unittest

from houses import NO_TEXTS, HouseCase, outcome, picture
from leadnames.errors import LeadError
from leadnames.hanging import hang, make_tree, set_root, stand, take
from leadnames.house import House
from leadnames.making import drop, look, make_file, make_folder, make_lead, name_file, read, set_rights, write
from leadnames.moving import move

# Of each deed its arguments behind the house, and those with which it is done.
DEEDS = [
    (make_folder, ("asker", "path", "mine", "rest"), ("ann", "/new", "lgw", "g")),
    (make_file, ("asker", "path", "text", "mine", "rest"), ("ann", "/new", "some text", "l", "")),
    (make_lead, ("asker", "path", "other"), ("ann", "/new", "/a")),
    (name_file, ("asker", "path", "other"), ("ann", "/f", "/new")),
    (drop, ("asker", "path"), ("ann", "/f")),
    (set_rights, ("asker", "path", "mine", "rest"), ("ann", "/a", "lg", "l")),
    (read, ("asker", "path"), ("ann", "/f")),
    (write, ("asker", "path", "text"), ("ann", "/f", "other text")),
    (look, ("asker", "path"), ("ann", "/a")),
    (move, ("asker", "path", "other"), ("ann", "/f", "/new")),
    (make_tree, ("asker", "name"), ("ann", "new")),
    (hang, ("asker", "tree", "path"), ("ann", "wood", "/a")),
    (take, ("asker", "tree"), ("ann", "tip")),
    (stand, ("asker", "path"), ("ann", "/a")),
    (set_root, ("asker", "path"), ("ann", "/a")),
]

# In the order in which they go ahead of one another.
ROLES = ["asker", "path", "other", "name", "mine", "rest", "text", "tree"]
CLASSES = {"asker": "NoAsker", "path": "NoPath", "other": "NoPath", "name": "NoName", "mine": "NoRights",
           "rest": "NoRights", "text": "NoText", "tree": "NoTree"}

NO_PATHS = NO_TEXTS + ["", "...", "a/...", "/a/.b", "A", "a b", "a1", "/a ", "abcdefghi", "a/abcdefghi", "-", "a\\b",
                       "a" * 2001, "/" * 2001]
WRONG = {
    "asker": NO_TEXTS + ["", "carl", "wood", "main", "Ann", "ann ", "abcdefghi", "/"],
    "path": NO_PATHS,
    "other": NO_PATHS,
    "name": NO_TEXTS + ["", "abcdefghi", "A", "a1", "a b", ".", "..", "a/b", "/", " a", "-"],
    "mine": NO_TEXTS + ["gl", "wl", "ll", "lgwl", "L", "-", " ", "r", "l ", "lwg"],
    "rest": NO_TEXTS + ["gl", "wl", "ll", "lgwl", "L", "-", " ", "r", "l ", "lwg"],
    "text": NO_TEXTS + ["a" * 61, " " * 61, "a" * 2000],
    "tree": NO_TEXTS + ["", "ann", "none", "Wood", "wood ", "abcdefghi", "/", "a/b"],
}

# Paths that are some, but with which a deed has another refusal due.
POOR_PATHS = ["/", ".", "..", "/f/", "/none/x", "/f/x", "/shut/x", "/loop/x", "/loop", "/a", "/f", "/kept/x"]


def some_house():
    house = House("ann")
    house.enroll("ben")
    make_folder(house, "ann", "/a", "lgw", "lgw")
    make_file(house, "ann", "/f", "text", "lgw", "lgw")
    make_folder(house, "ann", "/shut", "lw", "lw")
    make_lead(house, "ann", "/loop", "loop")
    make_folder(house, "ann", "/kept", "lg", "lg")
    make_tree(house, "ann", "wood")
    make_tree(house, "ann", "tip")
    make_folder(house, "ann", "/hook", "lgw", "lgw")
    hang(house, "ann", "tip", "/hook")
    return house


class Handed(HouseCase):

    def test_with_these_each_deed_is_done(self):
        for deed, roles, good in DEEDS:
            with self.subTest(deed=deed.__name__):
                self.assertEqual(outcome(deed, some_house(), *good)[0], "told")

    def test_one_alone(self):
        for deed, roles, good in DEEDS:
            house = some_house()
            before = picture(house)
            for place, role in enumerate(roles):
                for wrong in WRONG[role]:
                    handed = good[:place] + (wrong,) + good[place + 1:]
                    with self.subTest(deed=deed.__name__, handed=handed):
                        self.assertEqual(outcome(deed, house, *handed), CLASSES[role])
            self.assertEqual(picture(house), before)

    def test_several_at_once(self):
        for deed, roles, good in DEEDS:
            house = some_house()
            before = picture(house)
            for many in range(2, len(roles) + 1):
                for chosen in itertools.combinations(roles, many):
                    first = min(chosen, key=ROLES.index)
                    for turn in range(0, 35):
                        handed = [WRONG[role][turn % len(WRONG[role])] if role in chosen else value
                                  for role, value in zip(roles, good)]
                        with self.subTest(deed=deed.__name__, handed=handed):
                            self.assertEqual(outcome(deed, house, *handed), CLASSES[first])
            self.assertEqual(picture(house), before)

    def test_ahead_of_all_else(self):
        for deed, roles, good in DEEDS:
            house = some_house()
            before = picture(house)
            many = len([role for role in roles if role in ("path", "other")])
            for poor in itertools.product(POOR_PATHS, repeat=many):
                for wrong_place, wrong_role in enumerate(roles):
                    left = list(poor)
                    handed = [left.pop(0) if role in ("path", "other") else value for role, value in zip(roles, good)]
                    handed[0] = "ben"
                    handed[wrong_place] = WRONG[wrong_role][-1]
                    with self.subTest(deed=deed.__name__, handed=handed):
                        self.assertEqual(outcome(deed, house, *handed), CLASSES[wrong_role])
            self.assertEqual(picture(house), before)

    def test_of_its_own_class_alone(self):
        for deed, roles, good in DEEDS:
            house = some_house()
            for place, role in enumerate(roles):
                handed = good[:place] + (None,) + good[place + 1:]
                with self.assertRaises(LeadError) as taken:
                    deed(house, *handed)
                under = [kind.__name__ for kind in type(taken.exception).__mro__]
                self.assertEqual(under[:3], [CLASSES[role], "LeadError", "ValueError"])

    def test_what_is_handed_in_stays_as_it_is(self):
        house = some_house()
        for wrong in (["ann"], {"ann": 0}, ["/a"], ["lgw"]):
            kept = wrong.copy()
            for deed, roles, good in DEEDS:
                for place in range(len(roles)):
                    outcome(deed, house, *(good[:place] + (wrong,) + good[place + 1:]))
            self.assertEqual(wrong, kept)


class Named(HouseCase):

    def test_mine_and_rest_by_name(self):
        for wrong in WRONG["mine"]:
            self.refused(some_house(), "NoRights", make_folder, "ann", "/new", mine=wrong)
            self.refused(some_house(), "NoRights", make_folder, "ann", "/new", rest=wrong)
            self.refused(some_house(), "NoRights", make_file, "ann", "/new", "text", mine=wrong)
            self.refused(some_house(), "NoRights", make_file, "ann", "/new", "text", rest=wrong)
            self.refused(some_house(), "NoRights", set_rights, "ann", "/a", mine=wrong, rest="")

    def test_rights_go_ahead_of_the_text_that_stands_ahead_of_them(self):
        self.refused(some_house(), "NoRights", make_file, "ann", "/new", None, "x", "")
        self.refused(some_house(), "NoRights", make_file, "ann", "/new", "a" * 61, rest="x")
        self.refused(some_house(), "NoText", make_file, "ann", "/new", "a" * 61)


class Sizes(HouseCase):

    def test_a_leads_path_of_120_and_of_121_signs(self):
        for begun in ("", "/"):
            house = some_house()
            longest = begun + "a" + "/a" * 59 + "/" * (1 - len(begun))
            self.assertEqual(len(longest), 120)
            number = make_lead(house, "ann", "/new", longest)
            self.assertEqual(house.text_of(number), longest)
            self.refused(house, "NoPath", make_lead, "ann", "/other", longest + "/")
            self.refused(house, "NoPath", make_lead, "ann", "/", longest + "/")
            self.refused(house, "NoPath", make_lead, "ann", "/none/x", longest + "/")

    def test_a_leads_path_of_121_slashes(self):
        house = some_house()
        self.refused(house, "NoPath", make_lead, "ann", "/new", "/" * 121)
        number = make_lead(house, "ann", "/new", "/" * 120)
        self.assertEqual(house.text_of(number), "/" * 120)

    def test_a_seats_path_of_2000_and_of_2001_signs(self):
        house = some_house()
        longest = "/" * 1999 + "n"
        self.assertEqual(make_folder(house, "ann", longest), house.many() - 1)
        self.refused(house, "NoPath", make_folder, "ann", "/" + longest)
        self.refused(house, "NoPath", make_lead, "ann", "/" + longest, "a")
        self.refused(house, "NoPath", move, "ann", "/f", "/" + longest)

    def test_a_text_of_60_and_of_61_signs(self):
        house = some_house()
        number = make_file(house, "ann", "/new", "~" * 60)
        self.assertEqual(house.text_of(number), "~" * 60)
        write(house, "ann", "/new", " " * 60)
        self.assertEqual(house.text_of(number), " " * 60)
        self.refused(house, "NoText", write, "ann", "/new", " " * 61)
        self.refused(house, "NoText", make_file, "ann", "/other", " " * 61)

    def test_an_empty_text(self):
        house = some_house()
        self.assertEqual(house.text_of(make_file(house, "ann", "/new", "")), "")
        write(house, "ann", "/f", "")
        self.assertEqual(read(house, "ann", "/f"), "")


if __name__ == "__main__":
    unittest.main()
