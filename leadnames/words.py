"""What may be handed in: whole numbers, names, rights, texts and paths."""

from leadnames.errors import NoName, NoPath, NoRights, NoText

LETTERS = "abcdefghijklmnopqrstuvwxyz"
RIGHTS = ("", "l", "g", "w", "lg", "lw", "gw", "lgw")
SINGLE_RIGHTS = ("l", "g", "w")
DOTS = (".", "..")
MOST_IN_NAME = 8
MOST_IN_TEXT = 60
MOST_IN_PATH = 2000
MOST_IN_LEAD = 120


def is_whole(number):
    # Python counts True and False among the ints; here they are no numbers.
    return isinstance(number, int) and not isinstance(number, bool)


def is_name(text):
    if not isinstance(text, str) or not 1 <= len(text) <= MOST_IN_NAME:
        return False
    return all([sign in LETTERS for sign in text])


def is_rights(text):
    return isinstance(text, str) and text in RIGHTS


def is_text(text):
    return isinstance(text, str) and len(text) <= MOST_IN_TEXT


def is_part(text):
    return text in DOTS or is_name(text)


def parts_of(path):
    if not isinstance(path, str) or not 1 <= len(path) <= MOST_IN_PATH:
        raise NoPath("a path is a text of 1 to 2,000 signs")
    parts = [part for part in path.split("/") if part != ""]
    if not all([is_part(part) for part in parts]):
        raise NoPath("each part of a path is a name, one dot or two dots")
    if parts != [] and path.endswith("/"):
        # A slash at the end asks for a folder, as a step from it does.
        parts.append(".")
    return (path.startswith("/"), parts)


def check_name(text):
    if not is_name(text):
        raise NoName("a name is a text of one to eight small letters")


def check_rights(text):
    if not is_rights(text):
        raise NoRights("rights are some of l, g and w, in this order")


def check_one_right(text):
    if not isinstance(text, str) or text not in SINGLE_RIGHTS:
        raise NoRights("a right that is asked for is one of l, g and w")


def check_text(text):
    if not is_text(text):
        raise NoText("a file's text has at most 60 signs")


def check_lead(path):
    parts_of(path)
    if len(path) > MOST_IN_LEAD:
        raise NoPath("a lead's path has at most 120 signs")
