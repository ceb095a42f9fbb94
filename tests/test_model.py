"""Holds places and walks to point 4, and to a second, plainer telling of points 11 to 20, on houses drawn by lot."""

import random
import unittest

from drawn import ASKERS, NAMES, all_questions, deeded_house, drawn_house, folders_of
from houses import file, folder, picture, shown
from leadnames.places import base_of, is_below, is_seen, stack_of, top_of, tree_of
from leadnames.walks import Failed, Found, asked_of, walk
from leadnames.words import parts_of
from spelled import (SpelledWalk, lies_beneath, spelled_base, spelled_below, spelled_seen, spelled_stack, spelled_top,
                     spelled_tree)

# Of each sort so many: those put together out of plain parts, and those that deeds have made.
HOUSES = [(drawn_house, seed) for seed in range(100)] + [(deeded_house, seed) for seed in range(100)]


class Places(unittest.TestCase):

    def test_as_spelled(self):
        for maker, seed in HOUSES:
            house = maker(seed)
            for number in range(house.many()):
                self.assertEqual(tree_of(house, number), spelled_tree(house, number), seed)
            for number in folders_of(house):
                self.assertEqual(top_of(house, number), spelled_top(house, number), seed)
                self.assertEqual(base_of(house, number), spelled_base(house, number), seed)
                self.assertEqual(stack_of(house, number), spelled_stack(house, number), seed)
                for asker in ASKERS:
                    self.assertIs(is_seen(house, asker, number), spelled_seen(house, asker, number), seed)
                for other in folders_of(house):
                    self.assertIs(is_below(house, number, other), spelled_below(house, number, other), seed)


class Walks(unittest.TestCase):

    def test_as_spelled(self):
        told = {}
        for maker, seed in HOUSES:
            house = maker(seed)
            before = picture(house)
            for asker, path, last in all_questions(house, seed):
                spelled = SpelledWalk(house, asker, *parts_of(path), last)
                with self.subTest(maker=maker.__name__, seed=seed, asker=asker, path=path, last=last):
                    self.assertEqual(shown(walk(house, asker, path, last)), spelled.told)
                    self.assertEqual(asked_of(house, asker, path, last), spelled.asked)
                sort = spelled.told[0] if spelled.told[0] != "failed" else spelled.told[2]
                told[sort] = told.get(sort, 0) + 1
            self.assertEqual(picture(house), before)
        for sort in ("found", "ring", "outside", "flat", "shut", "none"):
            self.assertGreater(told.get(sort, 0), 20, sort)

    def test_each_folder_come_to_is_seen(self):
        for maker, seed in HOUSES:
            house = maker(seed)
            for asker, path, last in all_questions(house, seed):
                told = walk(house, asker, path, last)
                come_to = asked_of(house, asker, path, last)
                if type(told) is Found and house.kind_of(told.number) == "folder":
                    come_to.append(told.number)
                for number in come_to:
                    self.assertTrue(is_seen(house, asker, number), (seed, asker, path))

    def test_the_right_to_go_is_held_wherever_a_step_was_taken(self):
        for maker, seed in HOUSES:
            house = maker(seed)
            for asker, path, last in all_questions(house, seed):
                told = walk(house, asker, path, last)
                refused = [number for number in asked_of(house, asker, path, last)
                           if not house.may(asker, number, "g")]
                if type(told) is Failed and told.reason == "shut":
                    self.assertEqual(refused, asked_of(house, asker, path, last)[-1:])
                else:
                    self.assertEqual(refused, [])


class TruePaths(unittest.TestCase):

    def check_form(self, house, asker, told):
        from_root, parts = parts_of(told.way)
        self.assertIs(from_root, True)
        self.assertEqual("/" + "/".join(parts), told.way)
        self.assertNotIn(".", told.way)
        for index in range(1, len(parts)):
            ahead = walk(house, asker, "/" + "/".join(parts[:index]), False)
            if type(ahead) is Found:
                self.assertEqual(house.kind_of(ahead.number), "folder")

    def test_they_lead_there(self):
        ways = 0
        for maker, seed in HOUSES:
            house = maker(seed)
            for asker, path, last in all_questions(house, seed):
                told = walk(house, asker, path, last)
                if type(told) is not Found:
                    continue
                with self.subTest(maker=maker.__name__, seed=seed, asker=asker, path=path, last=last):
                    self.check_form(house, asker, told)
                    again = walk(house, asker, told.way, False)
                    if type(again) is Failed:
                        self.assertEqual(again.reason, "shut")
                    else:
                        self.assertEqual(shown(again), shown(told))
                        ways += 1
        self.assertGreater(ways, 500)

    def test_no_other_path_of_names_leads_there(self):
        for maker, seed in HOUSES:
            house = maker(seed)
            for asker in ASKERS:
                ways = {"/": walk(house, asker, "/").number}
                ahead = [("", ways["/"])]
                while ahead:
                    way, here = ahead.pop()
                    for name in house.names_in(here):
                        told = walk(house, asker, way + "/" + name, False)
                        if type(told) is Found:
                            self.assertEqual(told.way, way + "/" + name)
                            ways[told.way] = told.number
                            if house.kind_of(told.number) == "folder":
                                ahead.append((told.way, told.number))
                alone = [number for number in ways.values() if house.kind_of(number) != "file"]
                self.assertEqual(len(alone), len(set(alone)), seed)


class BehindShutFolders(unittest.TestCase):

    def stir(self, house, shut, lot):
        """Changes names, things and hangings in and beneath a folder."""
        hung_here = [tree for tree in house.trees() if house.covered_by(tree) is not None
                     and house.covered_by(tree) != shut and lies_beneath(house, house.covered_by(tree), shut)]
        for tree in hung_here[:1]:
            house.take_tree(tree)
        within = [number for number in folders_of(house) if lies_beneath(house, number, shut)]
        for number in within:
            for name in house.names_in(number):
                if lot.random() < 0.4:
                    house.things.drop_name(number, name)
            for name in NAMES:
                if house.child(number, name) is None and lot.random() < 0.5:
                    lot.choice((folder, file))(house, number, name)

    def test_what_is_changed_there_changes_no_answer(self):
        stirred = 0
        for maker, seed in HOUSES:
            plain = maker(seed)
            for asker in ASKERS:
                starts = (plain.root_of(asker), plain.standing_of(asker))
                for shut in folders_of(plain):
                    if plain.may(asker, shut, "g"):
                        continue
                    if any(lies_beneath(plain, start, shut) for start in starts):
                        continue
                    house = maker(seed)
                    self.stir(house, shut, random.Random(seed))
                    stirred += picture(house) != picture(plain)
                    for who, path, last in all_questions(plain, seed):
                        if who == asker:
                            self.assertEqual(shown(walk(house, who, path, last)), shown(walk(plain, who, path, last)),
                                             (seed, who, path, last))
        self.assertGreater(stirred, 50)


if __name__ == "__main__":
    unittest.main()
