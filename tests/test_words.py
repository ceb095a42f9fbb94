import copy
import itertools
import unittest

from leadnames.errors import NoName, NoPath, NoRights, NoText
from leadnames.words import check_lead, check_name, check_one_right, check_rights, check_text
from leadnames.words import is_name, is_rights, is_text, is_whole, parts_of

EIGHT = ("", "l", "g", "w", "lg", "lw", "gw", "lgw")
LETTERS = "abcdefghijklmnopqrstuvwxyz"


class Alike:
    """Says that it is whatever it is compared with."""

    def __eq__(self, other):
        return True

    def __len__(self):
        return 1


def no_texts():
    return [None, 0, 1, -1, 10 ** 30, True, False, [], ["a"], ["l"], (), ("a",), ("l", "g"), {}, {"a": 1},
            set(), {"a"}, frozenset("l"), b"", b"a", b"/a", object(), str, len, Alike()]


class WholeNumbers(unittest.TestCase):

    def test_ints(self):
        for number in (0, 1, -1, 7, 10 ** 30):
            self.assertIs(is_whole(number), True)

    def test_truths_and_others_are_none(self):
        for number in (True, False, None, "1", "", [1], (1,), {1: 1}):
            with self.subTest(number=number):
                self.assertIs(is_whole(number), False)


class Names(unittest.TestCase):

    def test_names(self):
        for text in list(LETTERS) + ["ab", "abcdefgh", "zzzzzzzz", "aaaaaaa", "lead", "none"]:
            with self.subTest(text=text):
                self.assertIs(is_name(text), True)

    def test_length(self):
        for many in range(0, 20):
            with self.subTest(many=many):
                self.assertIs(is_name("n" * many), 1 <= many <= 8)

    def test_other_signs(self):
        others = [chr(code) for code in range(0, 0x250) if chr(code) not in LETTERS]
        others += ["\u0430", "\u03b1", "\uff41", "\u05d0", "\U0001d41a", "\u2028"]
        for sign in others:
            for text in (sign, "a" + sign, sign + "a", "a" + sign + "b"):
                with self.subTest(text=text):
                    self.assertIs(is_name(text), False)

    def test_wrong_texts(self):
        for text in ("", "abcdefghi", "A", "aB", "a1", "1", " ", "a b", " a", "a ", ".", "..", "a.b", "/", "a/b",
                     "a-b", "-", "a_b", "a\n"):
            with self.subTest(text=text):
                self.assertIs(is_name(text), False)

    def test_no_texts(self):
        for value in no_texts():
            with self.subTest(value=value):
                self.assertIs(is_name(value), False)

    def test_check(self):
        self.assertIsNone(check_name("abcdefgh"))
        for value in no_texts() + ["", "abcdefghi", "A"]:
            with self.subTest(value=value):
                self.assertRaises(NoName, check_name, value)


class Rights(unittest.TestCase):

    def test_the_eight(self):
        for text in EIGHT:
            with self.subTest(text=text):
                self.assertIs(is_rights(text), True)

    def test_all_texts_of_up_to_four_signs(self):
        for many in range(0, 5):
            for signs in itertools.product("lgwLGWr -", repeat=many):
                text = "".join(signs)
                self.assertIs(is_rights(text), text in EIGHT, text)

    def test_wrong_texts(self):
        for text in ("gl", "wl", "wg", "wgl", "glw", "ll", "lgg", "lgww", "L", "LGW", "Lg", " ", " l", "l ", "l g",
                     "-", "r", "x", "lgwx", "l\n"):
            with self.subTest(text=text):
                self.assertIs(is_rights(text), False)

    def test_no_texts(self):
        for value in no_texts():
            with self.subTest(value=value):
                self.assertIs(is_rights(value), False)

    def test_check(self):
        for text in EIGHT:
            self.assertIsNone(check_rights(text))
        for value in no_texts() + ["gl", "ll", "L", " "]:
            with self.subTest(value=value):
                self.assertRaises(NoRights, check_rights, value)


class OneRight(unittest.TestCase):

    def test_each_of_the_three(self):
        for text in "lgw":
            self.assertIsNone(check_one_right(text))

    def test_all_others(self):
        for value in no_texts() + ["", "lg", "lw", "gw", "lgw", "gl", "L", "r", " ", "l ", "-"]:
            with self.subTest(value=value):
                self.assertRaises(NoRights, check_one_right, value)


class Texts(unittest.TestCase):

    def test_length(self):
        for many in (0, 1, 59, 60):
            self.assertIs(is_text("~" * many), True)
        for many in (61, 62, 2000):
            self.assertIs(is_text(" " * many), False)

    def test_no_texts(self):
        for value in no_texts():
            with self.subTest(value=value):
                self.assertIs(is_text(value), False)

    def test_check(self):
        self.assertIsNone(check_text(""))
        self.assertIsNone(check_text("x" * 60))
        for value in no_texts() + ["x" * 61]:
            with self.subTest(value=value):
                self.assertRaises(NoText, check_text, value)


class Paths(unittest.TestCase):

    def check(self, path, from_root, parts):
        with self.subTest(path=path):
            told = parts_of(path)
            self.assertIs(type(told), tuple)
            self.assertEqual(len(told), 2)
            self.assertIs(told[0], from_root)
            self.assertIs(type(told[1]), list)
            self.assertEqual(told[1], parts)

    def test_ordinary(self):
        self.check("a", False, ["a"])
        self.check("/a", True, ["a"])
        self.check("a/b", False, ["a", "b"])
        self.check("/a/b/c", True, ["a", "b", "c"])
        self.check("abcdefgh/z", False, ["abcdefgh", "z"])

    def test_slashes_alone_have_no_part(self):
        for many in (1, 2, 3, 2000):
            self.check("/" * many, True, [])

    def test_several_slashes(self):
        self.check("//a", True, ["a"])
        self.check("///a///b", True, ["a", "b"])
        self.check("a//b", False, ["a", "b"])
        self.check("a////b//c", False, ["a", "b", "c"])

    def test_slash_at_the_end_is_one_dot_more(self):
        self.check("a/", False, ["a", "."])
        self.check("a//", False, ["a", "."])
        self.check("a//b/", False, ["a", "b", "."])
        self.check("/a/", True, ["a", "."])
        self.check("//a//b///", True, ["a", "b", "."])
        self.check("./", False, [".", "."])
        self.check("../", False, ["..", "."])
        self.check("/./", True, [".", "."])

    def test_dots(self):
        self.check(".", False, ["."])
        self.check("..", False, [".."])
        self.check("/.", True, ["."])
        self.check("/..", True, [".."])
        self.check("./..", False, [".", ".."])
        self.check("a/./b/../c", False, ["a", ".", "b", "..", "c"])

    def test_most_signs(self):
        self.check("a/" * 999 + "ab", False, ["a"] * 999 + ["ab"])
        self.check("a/" * 1000, False, ["a"] * 1000 + ["."])
        self.check("/" * 1992 + "abcdefgh", True, ["abcdefgh"])
        self.check("./" * 1000, False, ["."] * 1001)

    def test_too_many_signs(self):
        for path in ("/" * 2001, "a/" * 1000 + "a", "/" * 2000 + "a", "a" + "/" * 2000, "./" * 1000 + ".", "a" * 2001,
                     "/a" * 5000):
            with self.subTest(path=path[:8]):
                self.assertRaises(NoPath, parts_of, path)

    def test_wrong_texts(self):
        for path in ("", "...", "....", "/...", "a/...", "..a", ".a", "a.", "a..", "a.b", "./.a", "/a/..b/c",
                     "abcdefghi", "/abcdefghi/", "a/abcdefghi", "abcdefghi/a", "A", "a/B", "a1", "1", " ", "a b",
                     " a", "a ", "/ /", "a/ /b", "a-b", "a_b", "a\\b", "a\n", "\n", "~", "a/~", "*", "\u00e9",
                     "a/\u0430", "\uff0f", "\u2024"):
            with self.subTest(path=path):
                self.assertRaises(NoPath, parts_of, path)

    def test_every_other_sign(self):
        for code in range(0, 0x250):
            sign = chr(code)
            if sign in LETTERS or sign in "./":
                continue
            for path in (sign, "a" + sign, "/a/" + sign, sign + "/a", "a/" + sign + "/a"):
                self.assertRaises(NoPath, parts_of, path)

    def test_no_texts(self):
        for value in no_texts():
            with self.subTest(value=value):
                self.assertRaises(NoPath, parts_of, value)

    def test_all_short_paths(self):
        for many in range(1, 7):
            for signs in itertools.product("a./", repeat=many):
                path = "".join(signs)
                parts = [part for part in path.split("/") if part]
                if any("." in part and part not in (".", "..") for part in parts):
                    self.assertRaises(NoPath, parts_of, path)
                    continue
                more = ["."] if parts and path[-1] == "/" else []
                self.assertEqual(parts_of(path), (path[0] == "/", parts + more))

    def test_told_is_new_each_time(self):
        for path in ("a//b/", "/", "/a", "."):
            first, kept = parts_of(path), parts_of(path)
            expected = copy.deepcopy(kept)
            self.assertIsNot(first[1], kept[1])
            first[1].append("more")
            self.assertEqual(kept, expected)
            self.assertEqual(parts_of(path), expected)


class Leads(unittest.TestCase):

    def test_length(self):
        self.assertIsNone(check_lead("/"))
        self.assertIsNone(check_lead("a/" * 60))
        for path in ("a/" * 60 + "a", "/" * 121, "/" * 2001):
            self.assertRaises(NoPath, check_lead, path)

    def test_no_paths(self):
        for value in no_texts() + ["", "...", "a b", "abcdefghi"]:
            with self.subTest(value=value):
                self.assertRaises(NoPath, check_lead, value)


class NothingIsChanged(unittest.TestCase):

    def test_what_is_handed_in_stays(self):
        for value in (["a", "b"], {"l": ["g"]}, ("a", ["l"]), [], {}):
            before = copy.deepcopy(value)
            is_name(value)
            is_rights(value)
            self.assertRaises(NoPath, parts_of, value)
            self.assertEqual(value, before)


if __name__ == "__main__":
    unittest.main()
