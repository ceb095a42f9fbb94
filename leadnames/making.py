"""The seats and the finds of deeds, and the deeds that make, name, drop, read and write things."""

from leadnames.errors import NoDeed, NoWay
from leadnames.places import tree_of
from leadnames.things import FOLDER
from leadnames.walks import Found, walk, walk_parts
from leadnames.words import check_lead, check_rights, check_text, is_name, parts_of


class Seat:

    def __init__(self, folder, name):
        self.folder = folder
        self.name = name


def check_paths(house, asker, path, other):
    house.check_asker(asker)
    parts_of(path)
    parts_of(other)


def check_seat(path):
    parts = parts_of(path)[1]
    if parts == [] or not is_name(parts[-1]):
        raise NoDeed("dots")


def seat_of(house, asker, path):
    check_seat(path)
    asked = parts_of(path)
    # The step by the seat's name asks what a step by one dot asks, and like that one stays where it is.
    ended = walk_parts(house, asker, asked[0], asked[1][:-1] + ["."], True)
    return Seat(number_found(ended.told), asked[1][-1])


def thing_at(house, seat):
    return house.child(seat.folder, seat.name)


def number_found(told):
    if not isinstance(told, Found):
        raise NoWay(told)
    return told.number


def is_folder(house, number):
    return house.kind_of(number) == FOLDER


def find_any(house, asker, path):
    return number_found(walk(house, asker, path))


def find_file(house, asker, path):
    number = find_any(house, asker, path)
    if is_folder(house, number):
        raise NoDeed("folder")
    return number


def find_folder(house, asker, path):
    number = find_any(house, asker, path)
    if not is_folder(house, number):
        raise NoDeed("file")
    return number


def check_may(house, asker, number, right, reason):
    if not house.may(asker, number, right):
        raise NoDeed(reason)


def check_kept(house, asker, folder):
    check_may(house, asker, folder, "w", "kept")


def check_free(house, seat):
    if thing_at(house, seat) is not None:
        raise NoDeed("there")


def check_uncovered(house, number):
    if house.is_covered(number):
        raise NoDeed("busy")


def check_may_go_missing(house, number):
    if is_folder(house, number):
        check_uncovered(house, number)
        if house.is_root(number):
            raise NoDeed("busy")
        if house.names_in(number) != []:
            raise NoDeed("full")


def free_seat_of(house, asker, path):
    seat = seat_of(house, asker, path)
    check_kept(house, asker, seat.folder)
    check_free(house, seat)
    return seat


def seat_thing(house, seat, number):
    house.things.put_name(seat.folder, seat.name, number)
    return number


def make_folder(house, asker, path, mine="lgw", rest=""):
    house.check_asker(asker)
    parts_of(path)
    check_rights(mine)
    check_rights(rest)
    seat = free_seat_of(house, asker, path)
    return seat_thing(house, seat, house.things.add_folder(asker, mine, rest))


def make_file(house, asker, path, text, mine="lgw", rest=""):
    house.check_asker(asker)
    parts_of(path)
    check_rights(mine)
    check_rights(rest)
    check_text(text)
    seat = free_seat_of(house, asker, path)
    return seat_thing(house, seat, house.things.add_file(asker, text, mine, rest))


def make_lead(house, asker, path, lead):
    house.check_asker(asker)
    parts_of(path)
    check_lead(lead)
    seat = free_seat_of(house, asker, path)
    return seat_thing(house, seat, house.things.add_lead(asker, lead))


def name_file(house, asker, path, other):
    check_paths(house, asker, path, other)
    check_seat(other)
    number = find_any(house, asker, path)
    seat = seat_of(house, asker, other)
    # Asked behind the seat, since NoWay of either path goes ahead of it.
    if is_folder(house, number):
        raise NoDeed("folder")
    check_kept(house, asker, seat.folder)
    if tree_of(house, seat.folder) != tree_of(house, number):
        raise NoDeed("other")
    check_free(house, seat)
    seat_thing(house, seat, number)


def drop(house, asker, path):
    house.check_asker(asker)
    seat = seat_of(house, asker, path)
    check_kept(house, asker, seat.folder)
    number = thing_at(house, seat)
    if number is None:
        raise NoDeed("none")
    check_may_go_missing(house, number)
    house.things.drop_name(seat.folder, seat.name)


def set_rights(house, asker, path, mine, rest):
    house.check_asker(asker)
    parts_of(path)
    check_rights(mine)
    check_rights(rest)
    number = find_any(house, asker, path)
    if house.owner_of(number) != asker:
        raise NoDeed("mine")
    house.things.put_rights(number, mine, rest)


def read(house, asker, path):
    number = find_file(house, asker, path)
    check_may(house, asker, number, "l", "look")
    return house.text_of(number)


def write(house, asker, path, text):
    house.check_asker(asker)
    parts_of(path)
    check_text(text)
    number = find_file(house, asker, path)
    check_may(house, asker, number, "w", "write")
    house.things.put_text(number, text)


def look(house, asker, path):
    number = find_folder(house, asker, path)
    check_may(house, asker, number, "l", "look")
    return house.names_in(number)
