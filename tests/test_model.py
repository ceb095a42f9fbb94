"""Holds places and walks to point 4, and to a second, plainer telling of points 11 to 20, on houses drawn by lot.

The lots are drawn from written seeds, so that each run draws the same."""

import random
import unittest

from houses import file, folder, lead, new_house, picture, shown
from leadnames.places import base_of, is_below, is_seen, stack_of, top_of, tree_of
from leadnames.walks import Failed, Found, asked_of, walk
from leadnames.words import parts_of

HOUSES = 120
NAMES = ("a", "b", "c", "d")
TREES = ("one", "two", "three")
PIECES = NAMES + (".", "..", "a", "b")
OPEN_AND_SHUT = ("lgw", "g", "lg", "gw", "g", "lgw", "lw", "")


def drawn_path(lot, most):
    path = "/".join(lot.choice(PIECES) for part in range(lot.randint(1, most)))
    return lot.choice(("", "", "/")) + path + lot.choice(("", "", "", "/"))


def folders_of(house):
    return [number for number in range(house.many()) if house.kind_of(number) == "folder"]


def drawn_thing(lot, house):
    where, name = lot.choice(folders_of(house)), lot.choice(NAMES)
    if house.child(where, name) is not None:
        return
    owner = lot.choice(("ann", "ben"))
    sort = lot.choice(("folder", "folder", "file", "lead", "lead"))
    if sort == "folder":
        folder(house, where, name, owner, lot.choice(OPEN_AND_SHUT), lot.choice(OPEN_AND_SHUT))
    elif sort == "file":
        file(house, where, name, "", owner)
    else:
        lead(house, where, name, lot.choice(("/", drawn_path(lot, 3), drawn_path(lot, 3))), owner)


def drawn_house(seed):
    lot = random.Random(seed)
    house = new_house()
    for tree in TREES:
        house.add_tree(tree, lot.choice(("ann", "ben")))
    for again in range(lot.randint(5, 40)):
        drawn_thing(lot, house)
    # A tree is hung into main and the trees told ahead of it alone, so that they make no ring.
    allowed = ["main"]
    for tree in TREES:
        free = [number for number in folders_of(house)
                if spelled_tree(house, number) in allowed and spelled_cover(house, number) is None]
        if lot.random() < 0.8:
            house.hang_tree(tree, lot.choice(free))
        allowed.append(tree)
    for asker in ("ann", "ben"):
        house.put_root(asker, lot.choice([0, 0, lot.choice(folders_of(house))]))
        house.put_standing(asker, lot.choice([house.root_of(asker), lot.choice(folders_of(house))]))
    empty = [number for number in folders_of(house)
             if house.names_in(number) == [] and house.place_of(number) is not None
             and spelled_cover(house, number) is None and number not in (house.root_of("ann"), house.root_of("ben"))]
    for number in empty[:1]:
        house.things.drop_name(*house.place_of(number))
    return house


# Points 11 to 15, word by word.

def spelled_cover(house, number):
    return next((house.tree_root(tree) for tree in house.trees() if house.covered_by(tree) == number), None)


def spelled_top(house, number):
    cover = spelled_cover(house, number)
    return number if cover is None else spelled_top(house, cover)


def spelled_base(house, number):
    for tree in house.trees():
        if house.tree_root(tree) == number and house.covered_by(tree) is not None:
            return spelled_base(house, house.covered_by(tree))
    return number


def spelled_stack(house, number):
    def upward(here):
        cover = spelled_cover(house, here)
        return [here] if cover is None else [here] + upward(cover)
    return upward(spelled_base(house, number))


def spelled_seen(house, asker, number):
    if spelled_top(house, number) != number:
        return False
    place = house.place_of(spelled_base(house, number))
    return (house.root_of(asker) in spelled_stack(house, number)
            or (place is not None and spelled_seen(house, asker, place[0])))


def spelled_tree(house, number):
    place = house.place_of(number)
    if place is not None:
        return spelled_tree(house, place[0])
    return next((tree for tree in house.trees() if house.tree_root(tree) == number), None)


def spelled_below(house, one, other):
    place = house.place_of(one)
    return one == other or (place is not None and spelled_below(house, place[0], other))


# Points 16 to 20, word by word: a lead's parts are walked by a call within the call.

class Ended(Exception):
    pass


class SpelledWalk:

    def __init__(self, house, asker, path, last):
        self.house, self.asker, self.last = house, asker, last
        self.root = spelled_top(house, house.root_of(asker))
        self.step, self.read, self.asked, self.by = 0, 0, [], None
        from_root, parts = parts_of(path)
        self.here = self.root if from_root else spelled_top(house, house.standing_of(asker))
        try:
            if not spelled_seen(house, asker, self.here):
                raise Ended("failed", 0, "outside")
            self.go(parts, [], True)
            self.told = ("found", self.here, self.way())
        except Ended as ended:
            self.told = ended.args

    def go(self, parts, reading, handed_in):
        for index, part in enumerate(parts):
            self.go_one(part, reading, handed_in and index == len(parts) - 1)

    def go_one(self, part, reading, last_of_path):
        house = self.house
        self.step += 1
        if house.kind_of(self.here) != "folder":
            raise Ended("failed", self.step, "flat")
        self.asked.append(self.here)
        mine, rest = house.rights_of(self.here)
        if "g" not in (mine if house.owner_of(self.here) == self.asker else rest):
            raise Ended("failed", self.step, "shut")
        if part == "..":
            if house.root_of(self.asker) not in spelled_stack(house, self.here):
                self.here = spelled_top(house, house.place_of(spelled_base(house, self.here))[0])
        elif part != ".":
            self.go_by_name(part, reading, last_of_path)

    def go_by_name(self, name, reading, last_of_path):
        number = self.house.child(self.here, name)
        if number is None:
            raise Ended("failed", self.step, "none")
        kind = self.house.kind_of(number)
        if kind == "folder":
            self.here = spelled_top(self.house, number)
        elif kind == "file" or (last_of_path and not self.last):
            self.by, self.here = (self.here, name), number
        elif number in reading:
            ring = reading[reading.index(number):]
            while ring[0] != min(ring):
                ring = ring[1:] + ring[:1]
            raise Ended("ring", ring)
        elif self.read == 40:
            raise Ended("failed", self.step, "many")
        else:
            self.read += 1
            from_root, parts = parts_of(self.house.text_of(number))
            if from_root:
                self.here = self.root
            self.go(parts, reading + [number], False)

    def way(self):
        if self.house.kind_of(self.here) == "folder":
            return self.way_to(self.here)
        return self.way_to(self.by[0]).rstrip("/") + "/" + self.by[1]

    def way_to(self, number):
        if self.house.root_of(self.asker) in spelled_stack(self.house, number):
            return "/"
        where, name = self.house.place_of(spelled_base(self.house, number))
        return self.way_to(where).rstrip("/") + "/" + name


def all_questions(house, seed):
    lot = random.Random(seed)
    paths = ["/", ".", ".."] + [drawn_path(lot, 6) for again in range(60)]
    return [(asker, path, last) for asker in ("ann", "ben") for path in paths for last in (True, False)]


class Places(unittest.TestCase):

    def test_as_spelled(self):
        for seed in range(HOUSES):
            house = drawn_house(seed)
            for number in range(house.many()):
                self.assertEqual(tree_of(house, number), spelled_tree(house, number), seed)
            for number in folders_of(house):
                self.assertEqual(top_of(house, number), spelled_top(house, number), seed)
                self.assertEqual(base_of(house, number), spelled_base(house, number), seed)
                self.assertEqual(stack_of(house, number), spelled_stack(house, number), seed)
                for asker in ("ann", "ben"):
                    self.assertIs(is_seen(house, asker, number), spelled_seen(house, asker, number), seed)
                for other in folders_of(house):
                    self.assertIs(is_below(house, number, other), spelled_below(house, number, other), seed)


class Walks(unittest.TestCase):

    def test_as_spelled(self):
        told = {}
        for seed in range(HOUSES):
            house = drawn_house(seed)
            before = picture(house)
            for asker, path, last in all_questions(house, seed):
                spelled = SpelledWalk(house, asker, path, last)
                with self.subTest(seed=seed, asker=asker, path=path, last=last):
                    self.assertEqual(shown(walk(house, asker, path, last)), spelled.told)
                    self.assertEqual(asked_of(house, asker, path, last), spelled.asked)
                sort = spelled.told[0] if spelled.told[0] != "failed" else spelled.told[2]
                told[sort] = told.get(sort, 0) + 1
            self.assertEqual(picture(house), before)
        for sort in ("found", "ring", "outside", "flat", "shut", "none"):
            self.assertGreater(told.get(sort, 0), 20, sort)

    def test_each_folder_come_to_is_seen(self):
        for seed in range(HOUSES):
            house = drawn_house(seed)
            for asker, path, last in all_questions(house, seed):
                told = walk(house, asker, path, last)
                come_to = asked_of(house, asker, path, last)
                if type(told) is Found and house.kind_of(told.number) == "folder":
                    come_to.append(told.number)
                for number in come_to:
                    self.assertTrue(is_seen(house, asker, number), (seed, asker, path))

    def test_the_right_to_go_is_held_wherever_a_step_was_taken(self):
        for seed in range(HOUSES):
            house = drawn_house(seed)
            for asker, path, last in all_questions(house, seed):
                told = walk(house, asker, path, last)
                refused = [number for number in asked_of(house, asker, path, last)
                           if not house.may(asker, number, "g")]
                if type(told) is Failed and told.reason == "shut":
                    self.assertEqual(refused, asked_of(house, asker, path, last)[-1:])
                else:
                    self.assertEqual(refused, [])


class TruePaths(unittest.TestCase):

    def check_form(self, house, asker, told):
        from_root, parts = parts_of(told.way)
        self.assertIs(from_root, True)
        self.assertEqual("/" + "/".join(parts), told.way)
        self.assertNotIn(".", told.way)
        for index in range(1, len(parts)):
            ahead = walk(house, asker, "/" + "/".join(parts[:index]), False)
            if type(ahead) is Found:
                self.assertEqual(house.kind_of(ahead.number), "folder")

    def test_they_lead_there(self):
        ways = 0
        for seed in range(HOUSES):
            house = drawn_house(seed)
            for asker, path, last in all_questions(house, seed):
                told = walk(house, asker, path, last)
                if type(told) is not Found:
                    continue
                with self.subTest(seed=seed, asker=asker, path=path, last=last):
                    self.check_form(house, asker, told)
                    again = walk(house, asker, told.way, False)
                    if type(again) is Failed:
                        self.assertEqual(again.reason, "shut")
                    else:
                        self.assertEqual(shown(again), shown(told))
                        ways += 1
        self.assertGreater(ways, 500)

    def test_no_other_path_of_names_leads_there(self):
        for seed in range(HOUSES):
            house = drawn_house(seed)
            for asker in ("ann", "ben"):
                ways = {"/": walk(house, asker, "/").number}
                ahead = [("", ways["/"])]
                while ahead:
                    way, here = ahead.pop()
                    for name in house.names_in(here):
                        told = walk(house, asker, way + "/" + name, False)
                        if type(told) is Found:
                            self.assertEqual(told.way, way + "/" + name)
                            ways[told.way] = told.number
                            if house.kind_of(told.number) == "folder":
                                ahead.append((told.way, told.number))
                alone = [number for number in ways.values() if house.kind_of(number) != "file"]
                self.assertEqual(len(alone), len(set(alone)), seed)


def lies_beneath(house, number, other):
    """Whether a folder is the other one or lies beneath it, by places and hangings."""
    if number == other:
        return True
    up = spelled_base(house, number)
    if up != number:
        return other in spelled_stack(house, number) or lies_beneath(house, up, other)
    place = house.place_of(number)
    return place is not None and lies_beneath(house, place[0], other)


class BehindShutFolders(unittest.TestCase):

    def stir(self, house, shut, lot):
        """Changes names, things and hangings in and beneath a folder."""
        hung_here = [tree for tree in house.trees() if house.covered_by(tree) is not None
                     and house.covered_by(tree) != shut and lies_beneath(house, house.covered_by(tree), shut)]
        for tree in hung_here[:1]:
            house.take_tree(tree)
        within = [number for number in folders_of(house) if lies_beneath(house, number, shut)]
        for number in within:
            for name in house.names_in(number):
                if lot.random() < 0.4:
                    house.things.drop_name(number, name)
            for name in NAMES:
                if house.child(number, name) is None and lot.random() < 0.5:
                    lot.choice((folder, file))(house, number, name)

    def test_what_is_changed_there_changes_no_answer(self):
        stirred = 0
        for seed in range(HOUSES):
            plain = drawn_house(seed)
            for asker in ("ann", "ben"):
                starts = (plain.root_of(asker), plain.standing_of(asker))
                for shut in folders_of(plain):
                    if plain.may(asker, shut, "g") or spelled_top(plain, shut) != shut:
                        continue
                    if any(lies_beneath(plain, start, shut) for start in starts):
                        continue
                    house = drawn_house(seed)
                    self.stir(house, shut, random.Random(seed))
                    stirred += picture(house) != picture(plain)
                    for who, path, last in all_questions(plain, seed):
                        if who == asker:
                            self.assertEqual(shown(walk(house, who, path, last)), shown(walk(plain, who, path, last)),
                                             (seed, who, path, last))
        self.assertGreater(stirred, 50)


if __name__ == "__main__":
    unittest.main()
