"""The deed that moves a thing from one name to another."""

from leadnames.errors import NoDeed
from leadnames.making import check_kept, check_may_go_missing, check_paths, check_seat, check_uncovered
from leadnames.making import is_folder, seat_of, seat_thing, thing_at
from leadnames.places import is_below, tree_of


def move(house, asker, path, other):
    check_paths(house, asker, path, other)
    check_seat(path)
    check_seat(other)
    source = seat_of(house, asker, path)
    target = seat_of(house, asker, other)
    check_kept(house, asker, source.folder)
    check_kept(house, asker, target.folder)
    moved = thing_at(house, source)
    if moved is None:
        raise NoDeed("none")
    # Both names of one file stay, as does a name that is moved to itself.
    if thing_at(house, target) != moved:
        move_thing(house, moved, source, target)


def move_thing(house, moved, source, target):
    if tree_of(house, source.folder) != tree_of(house, target.folder):
        raise NoDeed("other")
    if is_folder(house, moved):
        check_folder_moves(house, moved, target)
    former = thing_at(house, target)
    if former is not None:
        check_moves_over(house, moved, former)
    house.things.drop_name(source.folder, source.name)
    seat_thing(house, target, moved)


def check_folder_moves(house, moved, target):
    check_uncovered(house, moved)
    if is_below(house, target.folder, moved):
        raise NoDeed("ring")


def check_moves_over(house, moved, former):
    if is_folder(house, moved) != is_folder(house, former):
        raise NoDeed("there")
    check_may_go_missing(house, former)
