"""Points 34, 35 and 37: rows at a desk, and their answers."""

import random
import unittest

from drawn import DEEDS, HELD_DEEDS, begun_house, do_deed, drawn_deed, drawn_path
from houses import NO_TEXTS, outcome, shown
from leadnames.desk import Desk
from leadnames.errors import LeadError
from leadnames.shows import shown as shown_house
from leadnames.walks import walk

STARTED = ["enroll ben", "rights ann / lgw lgw", "folder ann /a lgw lgw", "file ann /a/f lgw lgw some text",
           "lead ann /l a/f", "tree ann wood", "folder ben /b lgw -", "lead ann /x y", "lead ann /y x"]

# One row that is done, or answered, upon a desk that was started.
GOOD = ["enroll carl", "folder ann /new lgw lg", "file ann /new lgw lg a text", "lead ann /new /a", "tree ann new",
        "hold ann /l lw", "name ann /l /new", "drop ann /l", "rights ann /a lgw -", "write ann /l new text",
        "move ann /a /new", "hang ann wood /a", "take ann tip", "stand ann /a", "root ann /a", "rewrite 0 new text",
        "free 0", "walk ann /l", "last ann /l", "read ann /l", "held 0", "look ann /a", "state 3", "show"]


WITH_TEXT = ("file", "write", "rewrite")


def started():
    desk = Desk("ann")
    for row in STARTED + ["hold ann /a/f lw", "tree ann tip", "folder ann /hook lgw lgw", "hang ann tip /hook"]:
        desk.say(row)
    return desk


class DeskCase(unittest.TestCase):

    def check_refused(self, desk, refusal, row):
        before, rows = desk.say("show"), desk.rows()
        self.assertEqual(outcome(desk.say, row), refusal, row)
        self.assertEqual((desk.say("show"), desk.rows()), (before, rows), row)


class New(DeskCase):

    def test_one_asker(self):
        desk = Desk("zoe")
        self.assertEqual(desk.say("show"), "asker zoe 0 0\ntree main 0 -\nfolder 0 zoe lgw lg")
        self.assertEqual(desk.rows(), [])

    def test_no_name(self):
        for wrong in NO_TEXTS + ["", "A", "abcdefghi", "a b", "-"]:
            self.assertEqual(outcome(Desk, wrong), "NoName")

    def test_two_desks_share_nothing(self):
        one, other = Desk("ann"), Desk("ann")
        one.say("folder ann /a - -")
        self.assertEqual(other.say("show"), Desk("ann").say("show"))
        self.assertEqual(other.rows(), [])


class Answers(DeskCase):

    def test_each_row(self):
        desk = Desk("ann")
        for row, answer in [
            ("enroll ben", "ok"),
            ("rights ann / lgw lgw", "ok"),
            ("folder ann /a lgw lgw", "1"),
            ("file ann /a/f lgw l some  text ", "2"),
            ("lead ben /l a/f", "3"),
            ("tree ben wood", "4"),
            ("hold ben /l lg", "0"),
            ("hold ann /a/f -", "1"),
            ("hold ann /a/f lw", "2"),
            ("name ben /l /g", "ok"),
            ("walk ben /l", "found 2 /a/f"),
            ("last ben /l", "found 3 /l"),
            ("walk ann /", "found 0 /"),
            ("read ben /g", "some  text "),
            ("held 0", "some  text "),
            ("write ann /g  new", "ok"),
            ("held 0", " new"),
            ("rewrite 2 ", "ok"),
            ("read ann /a/f", ""),
            ("look ann /", "a g l"),
            ("look ann /a", "f"),
            ("move ann /a/f /a/h", "ok"),
            ("look ann /a", "h"),
            ("walk ann /l", "failed 3 none"),
            ("last ann /l", "found 3 /l"),
            ("drop ann /a/h", "ok"),
            ("drop ben /g", "ok"),
            ("look ben /a", ""),
            ("state 2", "held"),
            ("free 2", "ok"),
            ("free 0", "ok"),
            ("state 2", "held"),
            ("free 1", "ok"),
            ("state 2", "gone"),
            ("state 0", "named"),
            ("hang ben wood /a", "ok"),
            ("walk ann a", "found 4 /a"),
            ("folder ben /a/in - g", "5"),
            ("stand ann /a", "ok"),
            ("walk ann .", "found 4 /a"),
            ("take ann wood", "ok"),
            ("walk ann .", "failed 0 outside"),
            ("root ben /a", "ok"),
            ("walk ben ..", "found 1 /"),
            ("lead ann /x y", "6"),
            ("lead ann /y z", "7"),
            ("lead ann /z y", "8"),
            ("walk ann /x", "ring 7 8"),
            ("walk ann /z", "ring 7 8"),
            ("last ann /x", "found 6 /x"),
            ("last ann /x/y", "ring 7 8"),
            ("walk ann /l/x", "failed 3 none"),
            ("walk ann /none", "failed 1 none"),
            ("show", "asker ann 0 4\nasker ben 1 1\ntree main 0 -\ntree wood 4 -\nfolder 0 ann lgw lgw\n"
                     "folder 1 ann lgw lgw\nfile 2 ann lgw l \nlead 3 ben a/f\nfolder 4 ben lgw lg\n"
                     "folder 5 ben - g\nlead 6 ann y\nlead 7 ann z\nlead 8 ann y\nname 0 a 1\nname 0 l 3\n"
                     "name 0 x 6\nname 0 y 7\nname 0 z 8\nname 4 in 5"),
        ]:
            with self.subTest(row=row):
                self.assertEqual(desk.say(row), answer)

    def test_each_good_row_is_answered(self):
        for row in GOOD:
            self.assertEqual(outcome(started().say, row)[0], "told", row)

    def test_rights_without_signs(self):
        desk = Desk("ann")
        for row in ("folder ann /a - -", "folder ann /b - lg", "folder ann /c lw -", "file ann /d - - -",
                    "file ann /e lgw - - -", "hold ann /e -", "rights ann / gw -", "rights ann /a - -"):
            desk.say(row)
        self.assertEqual(desk.say("show").splitlines()[2:8],
                         ["folder 0 ann gw -", "folder 1 ann - -", "folder 2 ann - lg", "folder 3 ann lw -",
                          "file 4 ann - - -", "file 5 ann lgw - - -"])
        self.assertEqual(desk.say("show").splitlines()[-1], "hold 0 5 -")

    def test_texts(self):
        for text in ("", " ", "  ", " a", "a ", "  a  b  ", "-", "ok", "file ann /f - - x", "~" * 60, " " * 60):
            desk = Desk("ann")
            self.assertEqual(desk.say("file ann /f lgw - " + text), "1")
            self.assertEqual(desk.say("read ann /f"), text)
            desk.say("file ann /g lgw - x")
            self.assertEqual(desk.say("write ann /g " + text), "ok")
            self.assertEqual(desk.say("read ann /g"), text)
            desk.say("hold ann /g lw")
            desk.say("write ann /g x")
            self.assertEqual(desk.say("rewrite 0 " + text), "ok")
            self.assertEqual(desk.say("held 0"), text)

    def test_the_walk_is_that_of_the_house_by_then(self):
        desk = started()
        for row, answer in (("walk ann /l", "found 2 /a/f"), ("move ann /a /c", "ok"), ("walk ann /l", "failed 2 none"),
                            ("move ann /c /a", "ok"), ("walk ann /l", "found 2 /a/f"), ("stand ann /a", "ok"),
                            ("walk ann f", "found 2 /a/f"), ("walk ben f", "failed 1 none")):
            self.assertEqual(desk.say(row), answer)

    def test_asking_changes_nothing(self):
        desk = started()
        before, rows = desk.say("show"), desk.rows()
        for row in GOOD[17:]:
            desk.say(row)
            self.assertEqual((desk.say("show"), desk.rows()), (before, rows), row)


class NoRows(DeskCase):

    def test_what_is_no_text(self):
        desk = started()
        for wrong in NO_TEXTS + [["show"], ("show",), b"show"]:
            self.check_refused(desk, "NoRow", wrong)

    def test_another_first_word(self):
        desk = started()
        for row in ("", " ", "  ", "sho", "shows", "Show", "SHOW", "none", "walks ann /a", "Walk ann /a", "ann walk /a",
                    "set_rights ann /a - -", "make_folder ann /a - -", "let_go 0", "0", "-", "show\n", "holds",
                    "askers",
                    "write_held 0 a", "text", "word word"):
            self.check_refused(desk, "NoRow", row)

    def test_too_few_words(self):
        for good in GOOD:
            desk = started()
            words = good.split(" ")
            # A text of two words is one too many for the row to be cut short behind it.
            for many in range(1, len(words) - (1 if words[0] in WITH_TEXT else 0)):
                self.check_refused(desk, "NoRow", " ".join(words[:many]))

    def test_too_many_words(self):
        for good in GOOD:
            if good.split(" ")[0] not in WITH_TEXT:
                for more in (" a", " -", " 0", " a b", " /a"):
                    self.check_refused(started(), "NoRow", good + more)

    def test_words_without_signs(self):
        for good in GOOD:
            desk = started()
            self.check_refused(desk, "NoRow", " " + good)
            self.check_refused(desk, "NoRow", "  " + good)
            words = good.split(" ")
            if words[0] in WITH_TEXT:
                words = words[:-2] + ["a  text"]
                last = len(words) - 1
            else:
                self.check_refused(desk, "NoRow", good + " ")
                self.check_refused(desk, "NoRow", good + "  ")
                last = len(words)
            for place in range(1, last):
                self.check_refused(desk, "NoRow", " ".join(words[:place] + [""] + words[place:]))
                self.check_refused(desk, "NoRow", " ".join(words[:place] + [""] + words[place + 1:]))

    def test_a_row_that_lacks_the_blank_ahead_of_its_text(self):
        desk = started()
        for row in ("file ann /new lgw -", "write ann /l", "rewrite 0", "file ann /new lgw", "write ann", "rewrite"):
            self.check_refused(desk, "NoRow", row)
        self.assertEqual(desk.say("file ann /new lgw - "), "10")
        self.assertEqual(desk.say("write ann /l "), "ok")
        self.assertEqual(desk.say("rewrite 0 "), "ok")

    def test_numbers(self):
        for first, behind in (("free", ""), ("held", ""), ("state", ""), ("rewrite", " text")):
            desk = started()
            for number in ("00", "01", "000", "-0", "-1", "+0", "+1", "0.0", "0x0", "a", "1a", "x", "1x", "/", "1_0",
                           "1234567890", "0000000000", "01234567",
                           "\u0663", "\u00b2", "1,0", "-", "None", "\t0", "0\n"):
                self.check_refused(desk, "NoRow", first + " " + number + behind)

    def test_numbers_of_one_to_nine_figures(self):
        for first, behind, refusal in (("free", "", "NoHold"), ("held", "", "NoHold"), ("state", "", "NoThing"),
                                       ("rewrite", " text", "NoHold")):
            desk = started()
            for number in ("999999999", "123456789", "100000000", "99", "11", "90"):
                self.check_refused(desk, refusal, first + " " + number + behind)
            self.assertEqual(outcome(desk.say, first + " 0" + behind)[0], "told")

    def test_ahead_of_all_else(self):
        desk = started()
        for row in ("folder carl /a x y z", "folder carl A", "file carl A x y", "walk carl", "walk carl A A",
                    "rewrite 07 " + "a" * 61,
                    "lead carl A A A", "free 99 99", "enroll A A", "hang carl none", "rewrite x"):
            self.check_refused(desk, "NoRow", row)


class Refusals(DeskCase):

    def test_as_the_deeds_refuse(self):
        desk = started()
        for row, refusal in [
            ("enroll ann", ("NoDeed", "there")), ("enroll A", "NoName"), ("enroll abcdefghi", "NoName"),
            ("enroll -", "NoName"),
            ("folder carl /new - -", "NoAsker"), ("folder ann A - -", "NoPath"), ("folder ann /new x -", "NoRights"),
            ("folder ann /new - x", "NoRights"), ("folder ann /new -- -", "NoRights"),
            ("folder ann /new l- -", "NoRights"),
            ("folder ann / - -", ("NoDeed", "dots")), ("folder ann /a - -", ("NoDeed", "there")),
            ("folder ann /none/x - -", ("NoWay", ("failed", 1, "none"))),
            ("folder ann /x/x - -", ("NoWay", ("ring", [6, 7]))),
            ("folder ann /l/x - -", ("NoWay", ("failed", 4, "flat"))),
            ("folder ann /b/x - -", ("NoWay", ("failed", 2, "shut"))),
            ("file carl /new - - text", "NoAsker"), ("file ann A x - " + "a" * 61, "NoPath"),
            ("file ann /new x - " + "a" * 61, "NoRights"), ("file ann /new - - " + "a" * 61, "NoText"),
            ("file ann /a - - text", ("NoDeed", "there")), ("file ann /a/ - - text", ("NoDeed", "dots")),
            ("lead ann /new A", "NoPath"), ("lead ann /new " + "/" * 121, "NoPath"),
            ("lead ann /a /", ("NoDeed", "there")),
            ("lead ann - /", "NoPath"), ("lead ann /new -", "NoPath"),
            ("tree carl new", "NoAsker"), ("tree ann A", "NoName"), ("tree ann wood", ("NoDeed", "there")),
            ("hold ann /a l", ("NoDeed", "folder")), ("hold ann /l x", "NoRights"), ("hold carl A x", "NoAsker"),
            ("name ann /a /new", ("NoDeed", "folder")), ("name ann /l /a", ("NoDeed", "there")),
            ("name ann /l /", ("NoDeed", "dots")), ("name ann /l /hook/new", ("NoDeed", "other")),
            ("drop ann /none", ("NoDeed", "none")), ("drop ann /a", ("NoDeed", "full")),
            ("drop ann /hook", ("NoDeed", "busy")),
            ("rights ben /a - -", ("NoDeed", "mine")), ("rights ann /a x x", "NoRights"),
            ("write ann /a text", ("NoDeed", "folder")), ("write ann /l " + "a" * 61, "NoText"),
            ("move ann /a /a/f", ("NoDeed", "ring")), ("move ann /l /a", ("NoDeed", "there")),
            ("move ann /none /new", ("NoDeed", "none")), ("move ann /a /hook/a", ("NoDeed", "other")),
            ("hang ann none /a", "NoTree"), ("hang ann main /a", ("NoDeed", "hung")),
            ("hang ann wood /l", ("NoDeed", "file")),
            ("hang ann wood A", "NoPath"), ("hang ben wood /hook", ("NoDeed", "kept")),
            ("take ann wood", ("NoDeed", "free")), ("take ann none", "NoTree"), ("take carl none", "NoAsker"),
            ("stand ann /l", ("NoDeed", "file")), ("stand ann /none", ("NoWay", ("failed", 1, "none"))),
            ("root ann /l", ("NoDeed", "file")), ("root carl /", "NoAsker"),
            ("rewrite 1 text", "NoHold"), ("rewrite 1 " + "a" * 61, "NoHold"), ("rewrite 0 " + "a" * 61, "NoText"),
            ("free 1", "NoHold"), ("held 1", "NoHold"), ("state 10", "NoThing"),
            ("walk carl A", "NoAsker"), ("walk ann A", "NoPath"), ("walk ann -", "NoPath"), ("last carl /", "NoAsker"),
            ("read ann /a", ("NoDeed", "folder")), ("read ann /none", ("NoWay", ("failed", 1, "none"))),
            ("look ann /l", ("NoDeed", "file")), ("look carl /l", "NoAsker"), ("look ann /b", ("NoDeed", "look")),
        ]:
            with self.subTest(row=row):
                self.check_refused(desk, refusal, row)

    def test_holds_without_a_right(self):
        desk = started()
        desk.say("hold ann /l g")
        self.check_refused(desk, ("NoDeed", "look"), "held 1")
        self.check_refused(desk, ("NoDeed", "write"), "rewrite 1 text")
        self.check_refused(desk, "NoText", "rewrite 1 " + "a" * 61)

    def test_what_is_refused_uses_no_number(self):
        desk = started()
        for row in ("folder ann /a - -", "file ann /a - - x", "lead ann /a /", "tree ann wood", "hold ann /a l"):
            self.assertRaises(LeadError, desk.say, row)
        self.assertEqual(desk.say("folder ann /new - -"), "10")
        self.assertEqual(desk.say("hold ann /l -"), "1")


class Rows(DeskCase):

    def test_just_those_that_do_and_were_not_refused(self):
        desk = Desk("ann")
        for row in ("enroll ben", "enroll ben", "show", "folder ann /a - -", "walk ann /a", "folder ann /a - -",
                    "nonsense",
                    "file ann /f lgw -  two  blanks ", "read ann /f", "look ann /", "state 1", "hold ann /f l",
                    "held 0",
                    "last ann /f", "move ann /f /f", "write ann /f ", "free 0", "free 0", "held 0"):
            outcome(desk.say, row)
        self.assertEqual(desk.rows(), ["enroll ben", "folder ann /a - -", "file ann /f lgw -  two  blanks ",
                                       "hold ann /f l",
                                       "move ann /f /f", "write ann /f ", "free 0"])

    def test_each_row_that_does_is_among_them(self):
        for row in GOOD[:17]:
            desk = started()
            before = desk.rows()
            desk.say(row)
            self.assertEqual(desk.rows(), before + [row])

    def test_a_new_list_each_time(self):
        desk = started()
        rows = desk.rows()
        desk.rows().clear()
        desk.rows().append("show")
        self.assertEqual(desk.rows(), rows)
        rows.append("more")
        desk.say("drop ann /l")
        self.assertEqual(desk.rows(), rows[:-1] + ["drop ann /l"])

    def test_told_to_another_desk(self):
        one, other = Desk("ann"), Desk("ann")
        answers = []
        for row in STARTED + ["hold ann /a/f lw", "drop ann /none", "free 0", "hold ann /l -", "drop ann /a/f", "bad",
                              "folder ann /a - -", "folder ann /n - -", "hang ann wood /a", "walk ann /l",
                              "stand ann /a"]:
            told = outcome(one.say, row)
            if told[0] == "told" and row in one.rows():
                answers.append(told[1])
        self.assertEqual([other.say(row) for row in one.rows()], answers)
        self.assertEqual(other.say("show"), one.say("show"))
        self.assertEqual(other.rows(), one.rows())


ROWS_OF = {
    "make_folder": "folder {asker} {0} {1} {2}", "make_file": "file {asker} {0} {2} {3} {1}",
    "make_lead": "lead {asker} {0} {1}", "name_file": "name {asker} {0} {1}", "drop": "drop {asker} {0}",
    "set_rights": "rights {asker} {0} {1} {2}", "read": "read {asker} {0}", "write": "write {asker} {0} {1}",
    "look": "look {asker} {0}", "move": "move {asker} {0} {1}", "make_tree": "tree {asker} {0}",
    "hang": "hang {asker} {0} {1}", "take": "take {asker} {0}", "stand": "stand {asker} {0}",
    "set_root": "root {asker} {0}",
    "hold": "hold {asker} {0} {1}", "read_held": "held {0}", "write_held": "rewrite {0} {1}", "let_go": "free {0}",
}
RIGHTS_AT = {"make_folder": (1, 2), "make_file": (2, 3), "set_rights": (1, 2), "hold": (1,)}


def row_of(deed, asker, handed):
    """The row for a deed, or None where what is handed in can't stand in one."""
    if asker in (None, "") or any(one is None or one is True for one in handed) or handed[0] == "":
        return None
    handed = ["-" if place in RIGHTS_AT.get(deed, ()) and one == "" else one for place, one in enumerate(handed)]
    if deed in ("name_file", "move", "make_lead", "hang") and handed[1] == "":
        return None
    return ROWS_OF[deed].format(*handed, asker=asker)


def answer_of(told):
    """What the desk answers where a deed tells this."""
    if told is None:
        return "ok"
    return " ".join(told) if isinstance(told, list) else str(told)


class Drawn(unittest.TestCase):

    def test_rows_beside_deeds(self):
        self.assertEqual(sorted(ROWS_OF), sorted(list(DEEDS) + list(HELD_DEEDS)))
        for seed in range(4000, 4040):
            lot = random.Random(seed)
            house, desk, answers = begun_house(), Desk("ann"), []
            for row in ["enroll ben", "rights ann / lgw lgw", "tree ben one", "tree ben two", "tree ben three"]:
                answers.append(desk.say(row))
            for again in range(100):
                deed, asker, handed = drawn_deed(lot, house)
                row = row_of(deed, asker, handed)
                if row is None:
                    continue
                told = do_deed(house, deed, asker, handed)
                answer = outcome(desk.say, row)
                if told[0] == "told" and not isinstance(told, str):
                    self.assertEqual(answer, ("told", answer_of(told[1])), row)
                    if deed not in ("read", "look", "read_held"):
                        answers.append(answer[1])
                else:
                    self.assertEqual(answer, told, row)
                self.check_walks(lot, house, desk)
            self.assertEqual(desk.say("show"), shown_house(house))
            other = Desk("ann")
            self.assertEqual([other.say(row) for row in desk.rows()], answers)
            self.assertEqual(other.say("show"), desk.say("show"))

    def check_walks(self, lot, house, desk):
        for asker in ("ann", "ben"):
            path = drawn_path(lot, 5)
            for word, last in (("walk", True), ("last", False)):
                told = shown(walk(house, asker, path, last))
                if told[0] == "ring":
                    told = ("ring",) + tuple(told[1])
                self.assertEqual(desk.say(f"{word} {asker} {path}"), " ".join(str(one) for one in told))


if __name__ == "__main__":
    unittest.main()
