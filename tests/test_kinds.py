"""Points 1 and 2: what is handed in, its bounds, and what is refused first."""

import copy
import unittest

from patchlay.answers import Made, Most
from patchlay.changes import done, fits, now_at, turned
from patchlay.errors import BadChange, BadNumber, BadPage, BadSheet, Clash, NotFitting
from patchlay.pairs import behind, beside, exchanged, merged

KINDS = [True, False, None, 0, -1, 7, "", "a", "ab", (), ("a",), b"a", {}, {"a": 1}, {"a"}, object(), list, [None],
         [1], [True], [b"a"], [["a"]], [("a",)], ["a", None], [()], [[]]]

BAD_LINES = ["\n", "a\n", "\t", "\x1f", "\x7f", "a\x00b"]

BAD_PAGES = KINDS + [[line] for line in BAD_LINES] + [["a"] * 2001]

# Each of these stands where a piece should.
BAD_PIECES = [
    True, None, 3, "abc", ["a", "b"], {}, (), (0,), (0, ["a"]), (0, ["a"], [], []),
    [0, ["a"], []],
    (True, ["a"], []), (False, ["a"], []), (None, ["a"], []), ("0", ["a"], []), ([], ["a"], []),
    (-1, ["a"], []), (2001, ["a"], []), (10 ** 40, ["a"], []),
    (0, [], []),
    (0, ("a",), []), (0, ["a"], ()), (0, (), ["a"]), (0, "a", []), (0, ["a"], "a"), (0, ["a"], ""), (0, "", ["a"]),
    (0, None, ["a"]), (0, ["a"], None), (0, 0, ["a"]), (0, ["a"], False), (0, {"a": 1}, []), (0, b"a", ["a"]),
    (0, [1], []), (0, [None], []), (0, [["a"]], []), (0, ["a"], [True]), (0, ["a"], ["a", b"b"]),
    (0, ["\n"], []), (0, [], ["a\t"]), (0, [], ["\x7f"]),
    (0, ["a"] * 501, []), (0, [], ["a"] * 501),
    (["a"], [], 0),
]

BAD_CHANGES = [True, False, None, 0, 5, "", "abc", (), ((0, ["a"], []),), {}, {0: 1}, b"", set()] + [
    [piece] for piece in BAD_PIECES
] + [
    [(0, ["a"], []), piece] for piece in BAD_PIECES
] + [
    # Pieces that touch, stand in one place, lie one in the other, or are told backwards.
    [(0, ["a"], []), (1, ["a"], [])],
    [(0, [], ["a"]), (0, [], ["b"])],
    [(0, [], ["a"]), (0, ["a"], ["b"])],
    [(0, ["a", "b", "c"], []), (1, ["b"], [])],
    [(5, ["a"], []), (0, ["a"], [])],
    [(5, [], ["a"]), (4, [], ["a"])],
    [(0, ["a"], []), (4, ["a"], []), (5, [], ["a"])],
    [(2 * at, [], ["a"]) for at in range(501)],
]

LONG = [(2000, ["a"] * 500, ["b"] * 500)]
MANY = [(2 * at, ["a"], []) for at in range(500)]


def refused(test, error, function, *given):
    """Assert that the call is refused as this very class, and that nothing handed in is changed."""
    try:
        before = copy.deepcopy(given)
    except TypeError:
        before = given
    with test.assertRaises(error) as caught:
        function(*given)
    test.assertIs(type(caught.exception), error, given)
    test.assertEqual(repr(given).split(" object at")[0], repr(before).split(" object at")[0])


class Pages(unittest.TestCase):
    def test_what_is_no_page_is_refused(self):
        for page in BAD_PAGES:
            with self.subTest(page=str(page)[:60]):
                refused(self, BadPage, done, page, [])
                refused(self, BadPage, fits, page, [])
                refused(self, BadPage, Made([], [[0]]).shows, page, [])
                refused(self, BadPage, Made([], [[0]]).shows, [], page)
                refused(self, BadPage, Most([], [[-1, None]]).shows, page, [])

    def test_each_sign_from_the_blank_to_the_tilde_may_stand_in_a_line(self):
        signs = "".join(chr(number) for number in range(32, 127))
        page = [signs, "", " "] + list(signs)
        self.assertEqual(done(page, [(0, [signs], [signs * 3])]), [signs * 3] + page[1:])

    def test_a_page_at_its_bound(self):
        page = ["a"] * 2000
        self.assertTrue(fits(page, []))
        self.assertEqual(done(page, [(2000, [], ["b"])]), page + ["b"])
        self.assertEqual(done([], []), [])

    def test_what_is_told_may_be_longer(self):
        page = ["a"] * 2000
        told = done(page, [(4 * at, [], ["b"] * 500) for at in range(500)])
        self.assertEqual(len(told), 2000 + 500 * 500)
        refused(self, BadPage, done, told, [])


class Changes(unittest.TestCase):
    def test_what_is_no_change_is_refused(self):
        for change in BAD_CHANGES:
            with self.subTest(change=str(change)[:60]):
                refused(self, BadChange, done, ["a"], change)
                refused(self, BadChange, fits, ["a"], change)
                refused(self, BadChange, now_at, change, 0)
                refused(self, BadChange, turned, change)
                for function in (behind, beside, merged, exchanged):
                    refused(self, BadChange, function, change, [])
                    refused(self, BadChange, function, [], change)

    def test_changes_at_their_bounds(self):
        for change in (LONG, MANY, []):
            self.assertFalse(fits(["b"], change) and change)
            self.assertEqual(turned(turned(change)), change)
            self.assertEqual(behind(change, []), change)
            self.assertEqual(behind([], change), change)
            self.assertEqual(beside(change, change).one, [])
            self.assertEqual(merged(change, []), change)
            self.assertEqual(exchanged(change, []), ([], change))
        self.assertEqual(now_at(LONG, 9999), 9999)
        self.assertEqual(now_at(MANY, 9999), 9499)

    def test_pieces_that_lie_as_near_as_they_may(self):
        change = [(0, ["a"], []), (2, [], ["x"]), (3, ["d"], ["y"])]
        self.assertEqual(done(["a", "b", "c", "d"], change), ["b", "x", "c", "y"])

    def test_told_changes_may_be_longer(self):
        far = turned([(0, [], ["a"] * 500), (2000, ["b"], [])])
        self.assertEqual(far, [(0, ["a"] * 500, []), (2500, [], ["b"])])
        refused(self, BadChange, turned, far)


class Numbers(unittest.TestCase):
    def test_what_is_no_number_from_0_to_9999_is_refused(self):
        for number in (True, False, None, "0", "", [], [0], (0,), b"0", {}, object(), -1, 10000, 10 ** 30, -10 ** 30):
            refused(self, BadNumber, now_at, [], number)

    def test_numbers_at_their_bounds(self):
        self.assertEqual(now_at([], 0), 0)
        self.assertEqual(now_at([], 9999), 9999)


class Order(unittest.TestCase):
    def test_the_page_goes_first_then_the_change_then_the_number_then_the_fit(self):
        refused(self, BadPage, done, None, None)
        refused(self, BadPage, fits, ("a",), [(0, [], [])])
        refused(self, BadPage, done, [1], [(0, ["b"], [])])
        refused(self, BadChange, done, ["a"], [(0, ["b"], []), (0, ["b"], [])])
        refused(self, BadChange, done, ["a"], [(9, ["b"], []), None])
        refused(self, BadChange, now_at, None, None)
        refused(self, BadChange, now_at, [(0, [], [])], True)
        refused(self, NotFitting, done, ["a"], [(0, ["b"], [])])

    def test_a_change_goes_ahead_of_the_clash(self):
        one = [(0, [], ["x"])]
        refused(self, Clash, behind, one, [(0, ["y"], [])])
        refused(self, BadChange, behind, one, [(0, ["y"], []), (1, [], ["z"])])
        refused(self, BadChange, behind, one + [()], [(0, ["y"], [])])

    def test_the_page_goes_ahead_of_the_sheet(self):
        refused(self, BadPage, Most([], []).shows, None, None)
        refused(self, BadSheet, Most([], []).shows, [], None)


BAD_SHEETS = [True, None, 0, "", (), {}, [None], [()], [(0, ["a"], [])], [[0, [], ["a"], [], []]],
              [(0, [], [], [], [])], [(0, ["a"], [], [], ["a"])], [(0, ["a"] * 10, ["a"], [], [])],
              [(0, [], ["a"], [], ["a"] * 10)], [(0, (), ["a"], [], [])], [(0, [], ["a"], [], ())],
              [(0, None, ["a"], [], [])], [(0, [], ["a"], [], "")], [(0, [], ("a",), [], [])],
              [(True, [], ["a"], [], [])], [(-1, [], ["a"], [], [])], [(2001, [], ["a"], [], [])],
              [(0, ["\n"], ["a"], [], [])], [(0, [], ["a"], [], [1])], [(0, [], ["a"] * 501, [], [])],
              [(0, [], [], ["a"] * 501, [])], [(0, [], ["a"], [], [], [])],
              [(0, [], ["a"], [], []), (1, [], ["a"], [], [])],
              [(3, [], ["a"], [], []), (1, [], ["a"], [], [])],
              [(2 * at, [], [], ["a"], []) for at in range(501)]]


class Sheets(unittest.TestCase):
    def test_what_is_no_sheet_is_refused(self):
        for sheet in BAD_SHEETS:
            with self.subTest(sheet=str(sheet)[:60]):
                refused(self, BadSheet, Most([], [[-1, None]]).shows, ["a"], sheet)

    def test_sheets_at_their_bounds(self):
        nine = ["a"] * 9
        sheet = [(2 * at, nine, ["b"], ["c"], nine) for at in range(500)]
        most = Most([None] * 500, [[-1, None]] + [[-1, None]] * 500)
        self.assertTrue(most.shows(["a"] * 2000, sheet))
        self.assertTrue(Most([None], [[-1, None]] * 2).shows([], [(2000, [], ["a"] * 500, ["a"] * 500, [])]))


if __name__ == "__main__":
    unittest.main()
