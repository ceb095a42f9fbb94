"""Deeds drawn by lot: each held to a second telling of points 3 and 21 to 30, and the house behind it to point 4."""

import random
import unittest

from drawn import ASKERS, begun_house, do_deed, drawn_deed, drawn_path, folders_of, known_path
from houses import changed, picture, shown
from leadnames.holding import state_of
from leadnames.places import is_seen
from leadnames.shows import shown as shown_house
from leadnames.walks import Found, asked_of, walk
from leadnames.words import parts_of
from spelled import (SpelledDeed, SpelledWalk, lies_beneath, spelled_base, spelled_show, spelled_state,
                     spelled_tree)

SEEDS = range(1000, 1060)
MANY = 120


def each_deed(seeds, many):
    """The house ahead of each deed, and the deed."""
    for seed in seeds:
        lot = random.Random(seed)
        house = begun_house()
        for again in range(many):
            yield (seed, again), house, drawn_deed(lot, house)


def some_questions(lot, house):
    for asker in ASKERS:
        for path in (drawn_path(lot, 6), known_path(lot, house, asker, ("folder", "file", "lead")), ".."):
            yield asker, path, lot.choice((True, False))


class AsSpelled(unittest.TestCase):

    def test_each_deed(self):
        seen = {}
        for at, house, (deed, asker, handed) in each_deed(SEEDS, MANY):
            spelled = SpelledDeed(house, deed, asker, *handed)
            with self.subTest(at=at, deed=deed, asker=asker, handed=handed):
                told = do_deed(house, deed, asker, handed)
                self.assertEqual(told, spelled.outcome)
                self.assertEqual(picture(house), spelled.after)
                sort = told if isinstance(told, str) else (told[0], told[1] if told[0] == "NoDeed" else "")
                seen[sort] = seen.get(sort, 0) + 1
        for reason in ("dots", "kept", "there", "folder", "other", "none", "busy", "full", "mine", "look", "write",
                       "file", "ring", "hung", "free"):
            self.assertGreater(seen.get(("NoDeed", reason), 0), 1, reason)
        for sort in ("NoAsker", "NoPath", "NoRights", "NoText", "NoTree", "NoHold", ("NoWay", ""), ("told", "")):
            self.assertGreater(seen.get(sort, 0), 1, sort)

    def test_each_walk_between_deeds(self):
        lot = random.Random(1)
        for at, house, drawn in each_deed(SEEDS, MANY):
            for asker, path, last in some_questions(lot, house):
                spelled = SpelledWalk(house, asker, *parts_of(path), last)
                told, asked = walk(house, asker, path, last), asked_of(house, asker, path, last)
                with self.subTest(at=at, asker=asker, path=path, last=last):
                    self.assertEqual(shown(told), spelled.told)
                    self.assertEqual(asked, spelled.asked)
                    come_to = [told.number] if type(told) is Found and house.kind_of(told.number) == "folder" else []
                    self.assertTrue(all(is_seen(house, asker, number) for number in asked + come_to))
            do_deed(house, *drawn)


class Houses(unittest.TestCase):

    def check_places(self, house):
        for number in range(house.many()):
            places = house.places_of(number)
            if house.kind_of(number) != "file":
                self.assertLessEqual(len(places), 1)
            for where, name in places:
                self.assertEqual(house.child(where, name), number)
            # The places of a file are all in one tree.
            self.assertEqual(len({spelled_tree(house, where) for where, name in places}), min(1, len(places)))
            for name in house.names_in(number):
                self.assertIn((number, name), house.places_of(house.child(number, name)))

    def check_trees(self, house):
        covered = [house.covered_by(tree) for tree in house.trees() if house.covered_by(tree) is not None]
        self.assertEqual(len(covered), len(set(covered)))
        self.assertIsNone(house.covered_by("main"))
        for tree in house.trees():
            self.assertEqual(house.places_of(house.tree_root(tree)), [])
        for number in covered:
            self.assertIn(spelled_tree(house, number), house.trees())

    def check_no_ring(self, house):
        for number in folders_of(house):
            here, steps = number, 0
            while here is not None:
                place = house.place_of(spelled_base(house, here))
                here, steps = place and place[0], steps + 1
                self.assertLessEqual(steps, house.many())

    def check_roots(self, house):
        for asker in house.askers():
            for number in (house.root_of(asker), house.standing_of(asker)):
                self.assertEqual(house.kind_of(number), "folder")
            self.assertIn(spelled_tree(house, house.root_of(asker)), house.trees())

    def check_states(self, house):
        for number in range(house.many()):
            self.assertEqual(state_of(house, number), spelled_state(house, number))

    def test_as_they_may_be(self):
        for at, house, drawn in each_deed(SEEDS, MANY):
            if type(do_deed(house, *drawn)) is tuple:
                with self.subTest(at=at, drawn=drawn):
                    self.check_places(house)
                    self.check_trees(house)
                    self.check_no_ring(house)
                    self.check_roots(house)
                    self.check_states(house)
                    self.assertEqual(shown_house(house), spelled_show(house))


class BehindShutFolders(unittest.TestCase):
    """What is changed in a folder in which the asker may not go, or beneath it, changes no answer of a walk."""

    def changed_folders(self, house, changes, former):
        """The folders in which something is changed: of a thing and of a hanging those in which it has its places."""
        where = []
        for key, value in changes.items():
            if key[0] == "names":
                where.append(key[1])
            elif key[0] == "thing":
                where.extend(folder for folder, name in house.places_of(key[1]))
            elif key[0] == "tree":
                for covered in (value[1], former.get(key, value)[1]):
                    if covered is not None:
                        where.extend(folder for folder, name in house.places_of(spelled_base(house, covered)))
        return where

    def shut_ahead(self, house, asker):
        starts = (house.root_of(asker), house.standing_of(asker))
        return [number for number in folders_of(house) if not house.may(asker, number, "g")
                and not any(lies_beneath(house, start, number) for start in starts)]

    def answers(self, house, asker, paths):
        return [(shown(walk(house, asker, path, last)), asked_of(house, asker, path, last))
                for path in paths for last in (True, False)]

    def test_each_deed(self):
        lot = random.Random(2)
        checked = {}
        for at, house, (deed, asker, handed) in each_deed(range(2000, 2150), 90):
            other = ASKERS[1 - ASKERS.index(asker)] if asker in ASKERS else "ann"
            shut = self.shut_ahead(house, other)
            paths = ["/", ".", ".."] + [drawn_path(lot, 6) for again in range(4)] \
                + [known_path(lot, house, other, ("folder", "file", "lead")) for again in range(8)]
            before, former = self.answers(house, other, paths), picture(house)
            do_deed(house, deed, asker, handed)
            changes = changed(former, picture(house))
            where = self.changed_folders(house, changes, former)
            if not changes or not where:
                continue
            still = [number for number in shut if number in self.shut_ahead(house, other)]
            if any(all(lies_beneath(house, folder, number) for folder in where) for number in still):
                with self.subTest(at=at, deed=deed, asker=asker, handed=handed):
                    self.assertEqual(self.answers(house, other, paths), before)
                checked[deed] = checked.get(deed, 0) + 1
        self.assertGreater(sum(checked.values()), 100, checked)
        self.assertGreater(len(checked), 6, checked)


if __name__ == "__main__":
    unittest.main()
