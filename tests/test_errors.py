"""Point 102: the errors."""

import unittest

from cutpapers import errors
from cutpapers.errors import BadRun, BadSentence, BadText, CutError, TooMany

KINDS = (BadRun, BadSentence, BadText, TooMany)


class TestErrors(unittest.TestCase):

    def test_cut_error_is_a_value_error(self):
        self.assertTrue(issubclass(CutError, ValueError))
        self.assertEqual((ValueError,), CutError.__bases__)

    def test_the_others_are_direct_subclasses(self):
        for kind in KINDS:
            self.assertEqual((CutError,), kind.__bases__, kind)

    def test_none_is_a_subclass_of_another(self):
        for kind in KINDS:
            for other in KINDS:
                self.assertEqual(kind is other, issubclass(kind, other))

    def test_they_are_created_without_arguments(self):
        for kind in (CutError,) + KINDS:
            self.assertIs(kind, type(kind()))

    def test_they_are_defined_in_their_file(self):
        for kind in (CutError,) + KINDS:
            self.assertEqual("cutpapers.errors", kind.__module__)
            self.assertIs(kind, getattr(errors, kind.__name__))


if __name__ == "__main__":
    unittest.main()
