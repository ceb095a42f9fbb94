"""Folders, files and leads by their numbers, and the places at which they stand."""

from leadnames.errors import NoThing
from leadnames.words import is_whole

FOLDER = "folder"
FILE = "file"
LEAD = "lead"


class Thing:

    def __init__(self, number, kind, owner, mine, rest, text):
        self.number = number
        self.kind = kind
        self.owner = owner
        self.mine = mine
        self.rest = rest
        # A file's text, a lead's path, and nothing for a folder.
        self.text = text
        # Both are kept by Things alone: each name here is a place there.
        self.names = {}
        self.places = {}

    def rights_for(self, asker):
        return self.mine if asker == self.owner else self.rest


class Things:

    def __init__(self):
        # Nothing is ever taken out, so a thing's number is its index.
        self.made = []
        # Grows with each change, so that whoever keeps answers knows when they are old.
        self.changes = 0

    def add_thing(self, kind, owner, mine, rest, text):
        self.changes += 1
        number = len(self.made)
        self.made.append(Thing(number, kind, owner, mine, rest, text))
        return number

    def add_folder(self, owner, mine, rest):
        return self.add_thing(FOLDER, owner, mine, rest, "")

    def add_file(self, owner, text, mine, rest):
        return self.add_thing(FILE, owner, mine, rest, text)

    def add_lead(self, owner, path):
        return self.add_thing(LEAD, owner, "", "", path)

    def many(self):
        return len(self.made)

    def at(self, number):
        if not is_whole(number) or not 0 <= number < len(self.made):
            raise NoThing("no thing has this number")
        return self.made[number]

    def child(self, folder, name):
        return self.at(folder).names.get(name)

    def names_in(self, number):
        return sorted(self.at(number).names)

    def places_of(self, number):
        return sorted(self.at(number).places)

    def place_of(self, number):
        return min(self.at(number).places, default=None)

    def put_rights(self, number, mine, rest):
        thing = self.at(number)
        self.changes += 1
        thing.mine = mine
        thing.rest = rest

    def put_text(self, number, text):
        thing = self.at(number)
        self.changes += 1
        thing.text = text

    def put_name(self, folder, name, number):
        thing = self.at(number)
        self.changes += 1
        self.drop_name(folder, name)
        if thing.kind != FILE:
            # Only a file may stand at several places at once.
            for former, known in list(thing.places):
                self.drop_name(former, known)
        self.at(folder).names[name] = number
        thing.places[(folder, name)] = True

    def drop_name(self, folder, name):
        number = self.child(folder, name)
        if number is not None:
            self.changes += 1
            self.at(folder).names.pop(name)
            self.at(number).places.pop((folder, name))
