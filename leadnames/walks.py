"""The walk: to what a path leads an asker, or where it fails, or which leads go round for ever."""

from leadnames.places import is_seen, stack_of, top_of
from leadnames.things import FILE, FOLDER
from leadnames.words import is_whole, parts_of

MOST_LEADS = 40


class Told:
    pass


class Found(Told):

    def __init__(self, number, way):
        self.number = number
        self.way = way


class Failed(Told):

    def __init__(self, step, reason):
        self.step = step
        self.reason = reason


class Ring(Told):

    def __init__(self, leads):
        self.leads = list(leads)


class Walk:

    def __init__(self, house, asker, last):
        self.house = house
        self.asker = asker
        self.last = last
        self.root = house.root_of(asker)
        self.here = self.root
        # The place at which a file or a lead was found: of a file's several ones the one gone by.
        self.place = None
        self.step = 0
        self.asked = []
        # The parts still to come, the next one at the end. A number among them ends the reading of this lead, so
        # that the last part of the path handed in is the one behind which nothing is left.
        self.left = []
        self.reading = []
        self.leads_read = 0
        self.looked_up = 0
        self.told = None

    def begin(self, from_root, parts):
        start = self.root if from_root else self.house.standing_of(self.asker)
        self.here = top_of(self.house, start)
        if is_seen(self.house, self.asker, self.here):
            self.left = list(reversed(parts))
        else:
            self.fail("outside")

    def go_on(self):
        while self.told is None and self.left != []:
            part = self.left.pop()
            if is_whole(part):
                self.reading.pop()
            else:
                self.take_step(part)
        if self.told is None:
            self.told = Found(self.here, self.true_path())

    def fail(self, reason):
        self.told = Failed(self.step, reason)

    def take_step(self, part):
        self.step += 1
        if self.house.kind_of(self.here) != FOLDER:
            self.fail("flat")
            return
        self.asked.append(self.here)
        if not self.house.may(self.asker, self.here, "g"):
            self.fail("shut")
        elif part == "..":
            self.go_up()
        elif part != ".":
            self.go_by(part)

    def go_up(self):
        stack = stack_of(self.house, self.here)
        if self.root not in stack:
            self.here = top_of(self.house, self.house.place_of(stack[0])[0])

    def go_by(self, name):
        self.looked_up += 1
        number = self.house.child(self.here, name)
        if number is None:
            self.fail("none")
            return
        kind = self.house.kind_of(number)
        if kind == FOLDER:
            self.here = top_of(self.house, number)
        elif kind == FILE or (self.left == [] and not self.last):
            self.place = (self.here, name)
            self.here = number
        else:
            self.meet_lead(number)

    def meet_lead(self, number):
        # A ring goes ahead of "many": it is one however many were read.
        if number in self.reading:
            self.told = Ring(from_least(self.reading[self.reading.index(number):]))
        elif self.leads_read == MOST_LEADS:
            self.fail("many")
        else:
            self.read_lead(number)

    def read_lead(self, number):
        read = parts_of(self.house.text_of(number))
        self.leads_read += 1
        self.reading.append(number)
        self.left.append(number)
        self.left.extend(list(reversed(read[1])))
        if read[0]:
            self.here = top_of(self.house, self.root)

    def true_path(self):
        names = []
        folder = self.here
        if self.house.kind_of(self.here) != FOLDER:
            folder = self.place[0]
            names = [self.place[1]]
        return "/" + "/".join(names_to(self.house, self.asker, folder) + names)


def names_to(house, asker, folder):
    root = house.root_of(asker)
    names = []
    stack = stack_of(house, folder)
    while root not in stack:
        place = house.place_of(stack[0])
        names.append(place[1])
        stack = stack_of(house, place[0])
    return list(reversed(names))


def from_least(leads):
    first = leads.index(min(leads))
    return leads[first:] + leads[:first]


def walk_parts(house, asker, from_root, parts, last):
    ended = Walk(house, asker, last)
    ended.begin(from_root, parts)
    ended.go_on()
    return ended


def walk_path(house, asker, path, last):
    house.check_asker(asker)
    read = parts_of(path)
    return walk_parts(house, asker, read[0], read[1], last)


def walk(house, asker, path, last=True):
    return walk_path(house, asker, path, last).told


def asked_of(house, asker, path, last=True):
    return walk_path(house, asker, path, last).asked
