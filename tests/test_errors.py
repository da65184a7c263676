"""Point 4: the error classes."""

import unittest

from foursfold import errors

from wrong import any_values

DIRECT = (
    ("BadMerger", "at"), ("Unsound", "three"), ("Uneven", "four"), ("BadQueue", "at"),
    ("BadWay", "at"), ("BadHouse", "at"), ("BadText", "at"), ("Refused", "at"),
    ("PaperFault", "at"), ("TooGreat", "most"),
)


class Errors(unittest.TestCase):
    def test_bases(self):
        self.assertEqual(errors.FoldError.__bases__, (ValueError,))
        for name, _ in DIRECT:
            self.assertEqual(getattr(errors, name).__bases__, (errors.FoldError,), name)
        self.assertEqual(errors.NoCommand.__bases__, (KeyError,))
        self.assertFalse(issubclass(errors.NoCommand, errors.FoldError))

    def test_what_they_were_made_with_is_kept_itself(self):
        for name, attribute in DIRECT + (("NoCommand", "command"),):
            made = getattr(errors, name)
            for value in any_values() + [object(), {}, {1}]:
                self.assertIs(getattr(made(value), attribute), value)
                self.assertIs(getattr(made(**{attribute: value}), attribute), value)

    def test_one_argument(self):
        for name, _ in DIRECT + (("NoCommand", "command"),):
            made = getattr(errors, name)
            self.assertRaises(TypeError, made)
            self.assertRaises(TypeError, made, 1, 2)

    def test_caught_by_bases(self):
        for name, _ in DIRECT:
            with self.assertRaises(errors.FoldError):
                raise getattr(errors, name)(3)
            with self.assertRaises(ValueError):
                raise getattr(errors, name)(3)
        with self.assertRaises(KeyError):
            raise errors.NoCommand(3)

    def test_the_base_class_may_be_raised(self):
        with self.assertRaises(ValueError):
            raise errors.FoldError("why")


if __name__ == "__main__":
    unittest.main()
