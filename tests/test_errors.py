import unittest

from leadnames import errors
from leadnames.errors import LeadError, NoDeed, NoWay

PLAIN = ("NoAsker", "NoPath", "NoName", "NoRights", "NoText", "NoTree", "NoThing", "NoHold", "NoRow")


def all_refusals():
    return [getattr(errors, name)() for name in PLAIN] + [NoWay("told"), NoDeed("kept")]


class OneBase(unittest.TestCase):

    def test_base_is_a_value_error(self):
        self.assertEqual(LeadError.__bases__, (ValueError,))

    def test_each_refusal_is_under_the_base(self):
        for refusal in all_refusals():
            with self.subTest(refusal=refusal):
                self.assertIsInstance(refusal, LeadError)
                self.assertIsInstance(refusal, ValueError)

    def test_no_refusal_is_under_another_one(self):
        kinds = [type(refusal) for refusal in all_refusals()]
        self.assertEqual(len(set(kinds)), 11)
        for one in kinds:
            for other in kinds:
                with self.subTest(one=one, other=other):
                    self.assertEqual(issubclass(one, other), one is other)

    def test_each_refusal_has_its_name(self):
        for name in PLAIN + ("NoWay", "NoDeed"):
            self.assertEqual(getattr(errors, name).__name__, name)

    def test_each_refusal_can_be_raised_and_taken_by_the_base(self):
        for refusal in all_refusals():
            with self.subTest(refusal=refusal):
                with self.assertRaises(LeadError) as taken:
                    raise refusal
                self.assertIs(taken.exception, refusal)

    def test_plain_refusals_take_words(self):
        for name in PLAIN:
            self.assertEqual(str(getattr(errors, name)("some words")), "some words")


class Fields(unittest.TestCase):

    def test_no_way_keeps_what_was_told(self):
        told = object()
        self.assertIs(NoWay(told).told, told)

    def test_no_deed_keeps_its_reason(self):
        for reason in ("kept", "there", "dots", "none", "busy", "full"):
            self.assertEqual(NoDeed(reason).reason, reason)

    def test_each_object_has_a_field_of_its_own(self):
        one, other = NoDeed("kept"), NoDeed("there")
        self.assertEqual((one.reason, other.reason), ("kept", "there"))
        first, second = NoWay(1), NoWay(2)
        self.assertEqual((first.told, second.told), (1, 2))

    def test_fields_are_there_when_taken(self):
        with self.assertRaises(NoWay) as taken:
            raise NoWay([3])
        self.assertEqual(taken.exception.told, [3])
        with self.assertRaises(NoDeed) as taken:
            raise NoDeed("ring")
        self.assertEqual(taken.exception.reason, "ring")

    def test_fields_must_be_handed_in(self):
        for kind in (NoWay, NoDeed):
            with self.assertRaises(TypeError):
                kind()


if __name__ == "__main__":
    unittest.main()
