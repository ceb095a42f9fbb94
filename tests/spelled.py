"""A second, plainer telling of the points, word by word, to which the program is held on houses drawn by lot.

It asks a house its plain questions (9) alone. A deed is told twice: here upon a picture of the house, there upon the
house itself."""

import copy

from houses import picture
from leadnames.words import parts_of


# Points 11 to 15, word by word.

def spelled_cover(house, number):
    return next((house.tree_root(tree) for tree in house.trees() if house.covered_by(tree) == number), None)


def spelled_top(house, number):
    cover = spelled_cover(house, number)
    return number if cover is None else spelled_top(house, cover)


def spelled_base(house, number):
    for tree in house.trees():
        if house.tree_root(tree) == number and house.covered_by(tree) is not None:
            return spelled_base(house, house.covered_by(tree))
    return number


def spelled_stack(house, number):
    def upward(here):
        cover = spelled_cover(house, here)
        return [here] if cover is None else [here] + upward(cover)
    return upward(spelled_base(house, number))


def spelled_seen(house, asker, number):
    if spelled_top(house, number) != number:
        return False
    place = house.place_of(spelled_base(house, number))
    return (house.root_of(asker) in spelled_stack(house, number)
            or (place is not None and spelled_seen(house, asker, place[0])))


def spelled_tree(house, number):
    place = house.place_of(number)
    if place is not None:
        return spelled_tree(house, place[0])
    return next((tree for tree in house.trees() if house.tree_root(tree) == number), None)


def spelled_below(house, one, other):
    place = house.place_of(one)
    return one == other or (place is not None and spelled_below(house, place[0], other))


# Points 16 to 20, word by word: a lead's parts are walked by a call within the call.

class Ended(Exception):
    pass


class SpelledWalk:

    def __init__(self, house, asker, from_root, parts, last):
        self.house, self.asker, self.last = house, asker, last
        self.root = spelled_top(house, house.root_of(asker))
        self.step, self.read, self.asked, self.by = 0, 0, [], None
        self.here = self.root if from_root else spelled_top(house, house.standing_of(asker))
        try:
            if not spelled_seen(house, asker, self.here):
                raise Ended("failed", 0, "outside")
            self.go(parts, [], True)
            self.told = ("found", self.here, self.way())
        except Ended as ended:
            self.told = ended.args

    def go(self, parts, reading, handed_in):
        for index, part in enumerate(parts):
            self.go_one(part, reading, handed_in and index == len(parts) - 1)

    def go_one(self, part, reading, last_of_path):
        house = self.house
        self.step += 1
        if house.kind_of(self.here) != "folder":
            raise Ended("failed", self.step, "flat")
        self.asked.append(self.here)
        mine, rest = house.rights_of(self.here)
        if "g" not in (mine if house.owner_of(self.here) == self.asker else rest):
            raise Ended("failed", self.step, "shut")
        if part == "..":
            if house.root_of(self.asker) not in spelled_stack(house, self.here):
                self.here = spelled_top(house, house.place_of(spelled_base(house, self.here))[0])
        elif part != ".":
            self.go_by_name(part, reading, last_of_path)

    def go_by_name(self, name, reading, last_of_path):
        number = self.house.child(self.here, name)
        if number is None:
            raise Ended("failed", self.step, "none")
        kind = self.house.kind_of(number)
        if kind == "folder":
            self.here = spelled_top(self.house, number)
        elif kind == "file" or (last_of_path and not self.last):
            self.by, self.here = (self.here, name), number
        elif number in reading:
            ring = reading[reading.index(number):]
            while ring[0] != min(ring):
                ring = ring[1:] + ring[:1]
            raise Ended("ring", ring)
        elif self.read == 40:
            raise Ended("failed", self.step, "many")
        else:
            self.read += 1
            from_root, parts = parts_of(self.house.text_of(number))
            if from_root:
                self.here = self.root
            self.go(parts, reading + [number], False)

    def way(self):
        if self.house.kind_of(self.here) == "folder":
            return self.way_to(self.here)
        return self.way_to(self.by[0]).rstrip("/") + "/" + self.by[1]

    def way_to(self, number):
        if self.house.root_of(self.asker) in spelled_stack(self.house, number):
            return "/"
        where, name = self.house.place_of(spelled_base(self.house, number))
        return self.way_to(where).rstrip("/") + "/" + name


# Point 4: a tree that is hung lies where the folder that it covers lies.

def lies_beneath(house, number, other):
    """Whether a folder is the other one or lies beneath it, by places and hangings."""
    place = house.place_of(spelled_base(house, number))
    return number == other or (place is not None and lies_beneath(house, place[0], other))


# Points 3 and 21 to 30, word by word.

EIGHT = ("", "l", "g", "w", "lg", "lw", "gw", "lgw")


class Refusal(Exception):

    def __init__(self, outcome):
        self.outcome = outcome


def need(given, outcome):
    if not given:
        raise Refusal(outcome)


def is_a_name(text):
    return isinstance(text, str) and 1 <= len(text) <= 8 and all("a" <= sign <= "z" for sign in text)


def is_a_path(path, most):
    if not isinstance(path, str) or not 1 <= len(path) <= most:
        return False
    return all(part in ("", ".", "..") or is_a_name(part) for part in path.split("/"))


class SpelledDeed:
    """One deed of an asker: what it tells or how it refuses, and the picture of the house behind it."""

    def __init__(self, house, deed, asker, *handed):
        self.house, self.asker = house, asker
        self.after = copy.deepcopy(picture(house))
        try:
            need(asker in house.askers() or deed in ("read_held", "write_held", "let_go"), "NoAsker")
            self.outcome = ("told", getattr(self, deed)(*handed))
        except Refusal as refusal:
            self.outcome = refusal.outcome
            self.after = picture(house)

    # What is asked ahead of all else.

    def paths(self, *paths):
        for path in paths:
            need(is_a_path(path, 2000), "NoPath")

    def rights(self, *rights):
        for one in rights:
            need(isinstance(one, str) and one in EIGHT, "NoRights")

    def text(self, text):
        need(isinstance(text, str) and len(text) <= 60, "NoText")

    # Walks and seats.

    def not_dots(self, path):
        parts = parts_of(path)[1]
        need(parts and parts[-1] not in (".", ".."), ("NoDeed", "dots"))

    def walked(self, path):
        told = SpelledWalk(self.house, self.asker, *parts_of(path), True).told
        need(told[0] == "found", ("NoWay", told))
        return told[1]

    def seat(self, path):
        self.not_dots(path)
        from_root, parts = parts_of(path)
        done = SpelledWalk(self.house, self.asker, from_root, parts[:-1], True)
        need(done.told[0] == "found", ("NoWay", done.told))
        number, step = done.told[1], done.step + 1
        need(self.house.kind_of(number) == "folder", ("NoWay", ("failed", step, "flat")))
        need(self.can(number, "g"), ("NoWay", ("failed", step, "shut")))
        return number, parts[-1]

    def can(self, number, right):
        mine, rest = self.house.rights_of(number)
        return right in (mine if self.house.owner_of(number) == self.asker else rest)

    def kind(self, number):
        return self.house.kind_of(number)

    def may_be_dropped(self, number):
        if self.kind(number) == "folder":
            need(spelled_cover(self.house, number) is None, ("NoDeed", "busy"))
            need(number not in [self.house.root_of(asker) for asker in self.house.askers()], ("NoDeed", "busy"))
            need(self.house.names_in(number) == [], ("NoDeed", "full"))

    # Changes of the picture.

    def put(self, seat, number):
        self.unput(seat)
        self.after["names", seat[0]][seat[1]] = number
        self.after["places", number] = sorted(self.after["places", number] + [seat])

    def unput(self, seat):
        former = self.after["names", seat[0]].pop(seat[1], None)
        if former is not None:
            self.after["places", former].remove(seat)

    def make(self, *thing):
        number = self.after["many"]
        self.after["many"] = number + 1
        self.after["thing", number] = thing
        self.after["places", number] = []
        self.after["names", number] = {}
        return number

    def make_at(self, path, *thing):
        seat = self.seat(path)
        need(self.can(seat[0], "w"), ("NoDeed", "kept"))
        need(self.house.child(*seat) is None, ("NoDeed", "there"))
        number = self.make(*thing)
        self.put(seat, number)
        return number

    # The deeds.

    def make_folder(self, path, mine, rest):
        self.paths(path)
        self.rights(mine, rest)
        return self.make_at(path, "folder", self.asker, (mine, rest), "")

    def make_file(self, path, text, mine, rest):
        self.paths(path)
        self.rights(mine, rest)
        self.text(text)
        return self.make_at(path, "file", self.asker, (mine, rest), text)

    def make_lead(self, path, lead):
        self.paths(path)
        need(is_a_path(lead, 120), "NoPath")
        return self.make_at(path, "lead", self.asker, ("", ""), lead)

    def name_file(self, path, other):
        self.paths(path, other)
        self.not_dots(other)
        number = self.walked(path)
        seat = self.seat(other)
        need(self.kind(number) != "folder", ("NoDeed", "folder"))
        need(self.can(seat[0], "w"), ("NoDeed", "kept"))
        need(spelled_tree(self.house, seat[0]) == spelled_tree(self.house, number), ("NoDeed", "other"))
        need(self.house.child(*seat) is None, ("NoDeed", "there"))
        self.put(seat, number)

    def drop(self, path):
        self.paths(path)
        seat = self.seat(path)
        need(self.can(seat[0], "w"), ("NoDeed", "kept"))
        number = self.house.child(*seat)
        need(number is not None, ("NoDeed", "none"))
        self.may_be_dropped(number)
        self.unput(seat)

    def set_rights(self, path, mine, rest):
        self.paths(path)
        self.rights(mine, rest)
        number = self.walked(path)
        need(self.house.owner_of(number) == self.asker, ("NoDeed", "mine"))
        kind, owner, rights, text = self.after["thing", number]
        self.after["thing", number] = (kind, owner, (mine, rest), text)

    def read(self, path):
        self.paths(path)
        number = self.walked(path)
        need(self.kind(number) == "file", ("NoDeed", "folder"))
        need(self.can(number, "l"), ("NoDeed", "look"))
        return self.house.text_of(number)

    def write(self, path, text):
        self.paths(path)
        self.text(text)
        number = self.walked(path)
        need(self.kind(number) == "file", ("NoDeed", "folder"))
        need(self.can(number, "w"), ("NoDeed", "write"))
        kind, owner, rights, former = self.after["thing", number]
        self.after["thing", number] = (kind, owner, rights, text)

    def look(self, path):
        self.paths(path)
        number = self.walked(path)
        need(self.kind(number) == "folder", ("NoDeed", "file"))
        need(self.can(number, "l"), ("NoDeed", "look"))
        return self.house.names_in(number)

    def move(self, path, other):
        self.paths(path, other)
        self.not_dots(path)
        self.not_dots(other)
        one, two = self.seat(path), self.seat(other)
        need(self.can(one[0], "w") and self.can(two[0], "w"), ("NoDeed", "kept"))
        moved, former = self.house.child(*one), self.house.child(*two)
        need(moved is not None, ("NoDeed", "none"))
        if moved == former:
            return
        need(spelled_tree(self.house, one[0]) == spelled_tree(self.house, two[0]), ("NoDeed", "other"))
        if self.kind(moved) == "folder":
            need(spelled_cover(self.house, moved) is None, ("NoDeed", "busy"))
            need(not spelled_below(self.house, two[0], moved), ("NoDeed", "ring"))
        if former is not None:
            need((self.kind(moved) == "folder") == (self.kind(former) == "folder"), ("NoDeed", "there"))
            self.may_be_dropped(former)
        self.unput(one)
        self.put(two, moved)

    def make_tree(self, tree):
        need(is_a_name(tree), "NoName")
        need(tree not in self.house.trees(), ("NoDeed", "there"))
        number = self.make("folder", self.asker, ("lgw", "lg"), "")
        self.after["trees"] = sorted(self.after["trees"] + [tree])
        self.after["tree", tree] = (number, None)
        return number

    def hangs_upon(self, tree, other):
        covered = self.house.covered_by(tree)
        return tree == other or (covered is not None
                                 and self.hangs_upon(spelled_tree(self.house, covered), other))

    def hang(self, tree, path):
        self.paths(path)
        need(tree in self.house.trees(), "NoTree")
        number = self.walked(path)
        need(self.kind(number) == "folder", ("NoDeed", "file"))
        need(tree != "main" and self.house.covered_by(tree) is None, ("NoDeed", "hung"))
        need(not self.hangs_upon(spelled_tree(self.house, number), tree), ("NoDeed", "ring"))
        need(self.can(number, "w"), ("NoDeed", "kept"))
        self.after["tree", tree] = (self.house.tree_root(tree), number)

    def take(self, tree):
        need(tree in self.house.trees(), "NoTree")
        number = self.house.covered_by(tree)
        need(number is not None, ("NoDeed", "free"))
        need(self.can(number, "w"), ("NoDeed", "kept"))
        self.after["tree", tree] = (self.house.tree_root(tree), None)

    def stand(self, path):
        self.paths(path)
        number = self.walked(path)
        need(self.kind(number) == "folder", ("NoDeed", "file"))
        self.after["standing", self.asker] = number

    def set_root(self, path):
        self.stand(path)
        self.after["root", self.asker] = self.after["standing", self.asker]

    def hold(self, path, rights):
        self.paths(path)
        self.rights(rights)
        number = self.walked(path)
        need(self.kind(number) == "file", ("NoDeed", "folder"))
        need("l" not in rights or self.can(number, "l"), ("NoDeed", "look"))
        need("w" not in rights or self.can(number, "w"), ("NoDeed", "write"))
        given = self.house.holds_given
        self.after["holds"] = self.after["holds"] + [given]
        self.after["hold", given] = (number, rights)
        return given

    def held(self, number):
        need(type(number) is int and number in self.after["holds"], "NoHold")
        return self.after["hold", number]

    def read_held(self, number):
        thing, rights = self.held(number)
        need("l" in rights, ("NoDeed", "look"))
        return self.house.text_of(thing)

    def write_held(self, number, text):
        thing, rights = self.held(number)
        self.text(text)
        need("w" in rights, ("NoDeed", "write"))
        kind, owner, known, former = self.after["thing", thing]
        self.after["thing", thing] = (kind, owner, known, text)

    def let_go(self, number):
        self.held(number)
        self.after["holds"].remove(number)
        self.after.pop(("hold", number))


# Point 31, word by word.

def spelled_state(house, number):
    if number in [house.tree_root(tree) for tree in house.trees()] or house.places_of(number):
        return "named"
    told = picture(house)
    if any(told["hold", held][0] == number for held in told["holds"]):
        return "held"
    if any(number in (house.root_of(asker), house.standing_of(asker)) for asker in house.askers()):
        return "held"
    return "gone"


# Point 36, word by word.

def spelled_show(house):
    told, rows = picture(house), []
    for asker in told["askers"]:
        rows.append(["asker", asker, told["root", asker], told["standing", asker]])
    for tree in told["trees"]:
        root, covered = told["tree", tree]
        rows.append(["tree", tree, root, "-" if covered is None else covered])
    for number in range(told["many"]):
        kind, owner, (mine, rest), text = told["thing", number]
        rights = [] if kind == "lead" else [mine or "-", rest or "-"]
        rows.append([kind, number, owner] + rights + ([] if kind == "folder" else [text]))
    for number in range(told["many"]):
        for name in sorted(told["names", number]):
            rows.append(["name", number, name, told["names", number][name]])
    for number in sorted(told["holds"]):
        thing, rights = told["hold", number]
        rows.append(["hold", number, thing, rights or "-"])
    return "\n".join(" ".join(str(word) for word in row) for row in rows)
