"""The interface's errors.py: the sixteen refusals."""

import unittest

from contentnames import errors

UNDER = {
    ValueError: ["BadText", "BadRow", "BadContent", "BadName", "Unfit"],
    TypeError: ["BadCall"],
    KeyError: ["NoMark", "NoName", "Nameless"],
    LookupError: ["Taken", "Known", "Twice"],
    RuntimeError: ["Clash", "Torn", "Busy"],
    OverflowError: ["TooLong"],
}
NAMES = [name for names in UNDER.values() for name in names]


class TestErrors(unittest.TestCase):
    def test_there_are_just_sixteen(self):
        there = [name for name, thing in vars(errors).items()
                 if isinstance(thing, type) and thing.__module__ == "contentnames.errors"]
        self.assertEqual(len(NAMES), 16)
        self.assertEqual(sorted(there), sorted(NAMES))

    def test_each_stands_straight_under_its_parent(self):
        for parent, names in UNDER.items():
            for name in names:
                with self.subTest(name):
                    self.assertEqual(getattr(errors, name).__bases__, (parent,))

    def test_none_is_under_another(self):
        for name in NAMES:
            for other in NAMES:
                if name != other:
                    self.assertFalse(issubclass(getattr(errors, name), getattr(errors, other)), (name, other))

    def test_the_field_is_what_it_is_made_with(self):
        for name in NAMES:
            for what in ["", "0k3f9a", 0, 12, None, ("f", "g"), (1, ("num", 1))]:
                with self.subTest(name, what=what):
                    self.assertEqual(getattr(errors, name)(what).what, what)

    def test_the_field_is_not_shared(self):
        for name in NAMES:
            one, other = getattr(errors, name)("one"), getattr(errors, name)("other")
            self.assertEqual((one.what, other.what), ("one", "other"))

    def test_each_is_made_with_one_thing(self):
        for name in NAMES:
            with self.assertRaises(TypeError):
                getattr(errors, name)()

    def test_each_is_caught_as_its_parent_with_its_field(self):
        for parent, names in UNDER.items():
            for name in names:
                with self.assertRaises(parent) as caught:
                    raise getattr(errors, name)("told")
                self.assertEqual(caught.exception.what, "told")


if __name__ == "__main__":
    unittest.main()
