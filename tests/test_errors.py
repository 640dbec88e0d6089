"""The classes of patchlay/errors.py."""

import unittest

from patchlay import errors
from patchlay.errors import BadRows, Clash, NotFitting, PatchError, TooFew

STRAIGHT = ["BadPage", "BadChange", "BadSheet", "BadNumber", "NotFitting", "Clash", "BadRows", "TooFew", "NoDeed"]


class Errors(unittest.TestCase):
    def test_all_stand_straight_under_patch_error(self):
        self.assertEqual(PatchError.__bases__, (ValueError,))
        for name in STRAIGHT:
            error = getattr(errors, name)
            self.assertEqual(error.__bases__, (PatchError,), name)
            self.assertEqual(error.__module__, "patchlay.errors", name)

    def test_fields(self):
        for error in (NotFitting(3, 4), Clash(3, 4)):
            self.assertEqual((error.piece, error.line), (3, 4))
        self.assertEqual(BadRows(7).row, 7)
        self.assertEqual(TooFew([1, 2]).pieces, [1, 2])

    def test_the_list_in_an_error_is_the_askers_own(self):
        given = [1, 2]
        error = TooFew(given)
        error.pieces.append(3)
        self.assertEqual(given, [1, 2])


if __name__ == "__main__":
    unittest.main()
