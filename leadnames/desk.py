"""A desk at which a house is told what to do, and asked, by rows of words."""

from leadnames.errors import NoRow
from leadnames.hanging import hang, make_tree, set_root, stand, take
from leadnames.holding import hold, let_go, read_held, state_of, write_held
from leadnames.house import House
from leadnames.making import drop, look, make_file, make_folder, make_lead, name_file, read, set_rights, write
from leadnames.moving import move
from leadnames.quick import Quick
from leadnames.shows import NOTHING, shown
from leadnames.walks import Failed, Found

FIGURES = "0123456789"
MOST_FIGURES = 9
DONE = "ok"

# What stands behind the first word of each row.
FORMS = {
    "enroll": ("word",),
    "folder": ("word", "word", "rights", "rights"),
    "file": ("word", "word", "rights", "rights", "text"),
    "lead": ("word", "word", "word"),
    "tree": ("word", "word"),
    "hold": ("word", "word", "rights"),
    "name": ("word", "word", "word"),
    "drop": ("word", "word"),
    "rights": ("word", "word", "rights", "rights"),
    "write": ("word", "word", "text"),
    "move": ("word", "word", "word"),
    "hang": ("word", "word", "word"),
    "take": ("word", "word"),
    "stand": ("word", "word"),
    "root": ("word", "word"),
    "rewrite": ("number", "text"),
    "free": ("number",),
    "walk": ("word", "word"),
    "last": ("word", "word"),
    "read": ("word", "word"),
    "held": ("number",),
    "look": ("word", "word"),
    "state": ("number",),
    "show": (),
}


def is_figures(word):
    if not 1 <= len(word) <= MOST_FIGURES or (word != "0" and word.startswith("0")):
        return False
    return all([sign in FIGURES for sign in word])


def value_of(sort, word):
    if sort == "text":
        return word
    if word == "":
        raise NoRow("a word has signs")
    if sort == "rights":
        return "" if word == NOTHING else word
    if sort == "number":
        if not is_figures(word):
            raise NoRow("a number is written by one to nine figures")
        return int(word)
    return word


def first_word(row):
    if not isinstance(row, str):
        raise NoRow("a row is a text")
    word = row.partition(" ")[0]
    if word not in FORMS:
        raise NoRow("no row begins with this word")
    return word


def values_in(row):
    form = FORMS[first_word(row)]
    # A text is all that is left behind the blank ahead of it, with the blanks in it.
    words = row.split(" ", len(form)) if form[-1:] == ("text",) else row.split(" ")
    if len(words) != len(form) + 1:
        raise NoRow("a row has neither fewer nor more words than its form")
    return [value_of(sort, word) for sort, word in zip(form, words[1:])]


def do_enroll(house, given):
    house.enroll(given[0])
    return DONE


def do_folder(house, given):
    return str(make_folder(house, given[0], given[1], given[2], given[3]))


def do_file(house, given):
    return str(make_file(house, given[0], given[1], given[4], given[2], given[3]))


def do_lead(house, given):
    return str(make_lead(house, given[0], given[1], given[2]))


def do_tree(house, given):
    return str(make_tree(house, given[0], given[1]))


def do_hold(house, given):
    return str(hold(house, given[0], given[1], given[2]))


def do_name(house, given):
    name_file(house, given[0], given[1], given[2])
    return DONE


def do_drop(house, given):
    drop(house, given[0], given[1])
    return DONE


def do_rights(house, given):
    set_rights(house, given[0], given[1], given[2], given[3])
    return DONE


def do_write(house, given):
    write(house, given[0], given[1], given[2])
    return DONE


def do_move(house, given):
    move(house, given[0], given[1], given[2])
    return DONE


def do_hang(house, given):
    hang(house, given[0], given[1], given[2])
    return DONE


def do_take(house, given):
    take(house, given[0], given[1])
    return DONE


def do_stand(house, given):
    stand(house, given[0], given[1])
    return DONE


def do_root(house, given):
    set_root(house, given[0], given[1])
    return DONE


def do_rewrite(house, given):
    write_held(house, given[0], given[1])
    return DONE


def do_free(house, given):
    let_go(house, given[0])
    return DONE


DOING = {
    "enroll": do_enroll,
    "folder": do_folder,
    "file": do_file,
    "lead": do_lead,
    "tree": do_tree,
    "hold": do_hold,
    "name": do_name,
    "drop": do_drop,
    "rights": do_rights,
    "write": do_write,
    "move": do_move,
    "hang": do_hang,
    "take": do_take,
    "stand": do_stand,
    "root": do_root,
    "rewrite": do_rewrite,
    "free": do_free,
}


def told_row(told):
    if isinstance(told, Found):
        number = told.number
        way = told.way
        return f"found {number} {way}"
    if isinstance(told, Failed):
        step = told.step
        reason = told.reason
        return f"failed {step} {reason}"
    return " ".join(["ring"] + [str(number) for number in told.leads])


def ask_walk(desk, given):
    return told_row(desk.quick.walk(given[0], given[1]))


def ask_last(desk, given):
    return told_row(desk.quick.walk(given[0], given[1], False))


def ask_read(desk, given):
    return read(desk.house, given[0], given[1])


def ask_held(desk, given):
    return read_held(desk.house, given[0])


def ask_look(desk, given):
    return " ".join(look(desk.house, given[0], given[1]))


def ask_state(desk, given):
    return state_of(desk.house, given[0])


def ask_show(desk, given):
    return shown(desk.house)


ASKING = {
    "walk": ask_walk,
    "last": ask_last,
    "read": ask_read,
    "held": ask_held,
    "look": ask_look,
    "state": ask_state,
    "show": ask_show,
}


class Desk:

    def __init__(self, owner):
        self.house = House(owner)
        self.quick = Quick(self.house)
        self.said = []

    def say(self, row):
        given = values_in(row)
        word = first_word(row)
        if word in ASKING:
            return ASKING[word](self, given)
        answer = DOING[word](self.house, given)
        self.said.append(row)
        return answer

    def rows(self):
        return list(self.said)
