"""Points 3 and 4: a change done, the lines that stand, a change turned about."""

import copy
import unittest

from patchlay.changes import done, fits, now_at, turned
from patchlay.errors import NotFitting
from small import changes, is_valid, pages, share_lists, slow_done

OPTIONS = [[], ["a"], ["x", "a"]]


def all_small(most=3):
    for page in pages("ab", most):
        for change in changes(page, OPTIONS):
            yield page, change


class Done(unittest.TestCase):
    def test_lines_are_replaced(self):
        page = ["a", "b", "c", "d"]
        change = [(0, [], ["x"]), (1, ["b", "c"], ["y"]), (4, [], ["z", "z"])]
        self.assertEqual(done(page, change), ["x", "a", "y", "d", "z", "z"])
        self.assertIs(fits(page, change), True)

    def test_all_small_changes_do_as_when_done_from_behind(self):
        for page, change in all_small():
            self.assertTrue(fits(page, change))
            self.assertEqual(done(page, change), slow_done(page, change))

    def test_an_empty_page_and_an_empty_change(self):
        self.assertEqual(done([], []), [])
        self.assertEqual(done(["a"], []), ["a"])
        self.assertEqual(done([], [(0, [], ["a"])]), ["a"])
        self.assertEqual(done(["a", "b"], [(0, ["a", "b"], [])]), [])

    def test_a_place_at_the_pages_end_fits_if_nothing_is_taken(self):
        self.assertEqual(done(["a"], [(1, [], ["b"])]), ["a", "b"])
        self.assertTrue(fits(["a"] * 2000, [(2000, [], ["b"])]))

    def test_what_is_handed_in_stays_and_what_is_told_is_new(self):
        page = ["a", "b", "c"]
        change = [(1, ["b"], ["x"])]
        before = copy.deepcopy((page, change))
        told = done(page, change)
        told.append("y")
        self.assertEqual((page, change), before)
        self.assertIsNot(done(page, []), page)


class NotFittingFields(unittest.TestCase):
    def wrong(self, page, change):
        before = copy.deepcopy((page, change))
        self.assertIs(fits(page, change), False)
        with self.assertRaises(NotFitting) as caught:
            done(page, change)
        self.assertEqual((page, change), before)
        return caught.exception.piece, caught.exception.line

    def test_the_first_piece_and_its_first_line(self):
        page = ["a", "b", "c", "d", "e"]
        self.assertEqual(self.wrong(page, [(0, ["x"], [])]), (0, 0))
        self.assertEqual(self.wrong(page, [(0, ["a", "b", "x", "y"], [])]), (0, 2))
        self.assertEqual(self.wrong(page, [(0, ["a"], []), (2, ["c", "x"], []), (5, ["x"], [])]), (1, 1))
        self.assertEqual(self.wrong(page, [(0, [], ["x"]), (1, ["b"], ["b"]), (3, ["e"], [])]), (2, 0))

    def test_a_line_beyond_the_page(self):
        self.assertEqual(self.wrong(["a", "b"], [(1, ["b", "c"], [])]), (0, 1))
        self.assertEqual(self.wrong(["a", "b"], [(2, ["a"], [])]), (0, 0))
        self.assertEqual(self.wrong([], [(0, ["a"], [])]), (0, 0))
        self.assertEqual(self.wrong(["a", "b"], [(0, ["a", "b", "", "b"], [])]), (0, 2))

    def test_a_place_beyond_the_page(self):
        self.assertEqual(self.wrong(["a", "b"], [(3, ["a"], [])]), (0, 0))
        self.assertEqual(self.wrong(["a", "b"], [(3, [], ["x"])]), (0, 0))
        self.assertEqual(self.wrong(["a", "b"], [(2, [], ["x"]), (3, [], ["x"])]), (1, 0))
        self.assertEqual(self.wrong([], [(2000, [], ["x"])]), (0, 0))
        self.assertEqual(self.wrong(["a"] * 1999, [(2000, [], ["x"])]), (0, 0))

    def test_places_are_those_of_the_page_at_first(self):
        # Were the places counted in the page as it grows, this change would fit.
        self.assertEqual(self.wrong(["a", "b"], [(0, [], ["x", "y"]), (3, ["b"], [])]), (1, 0))


class NowAt(unittest.TestCase):
    def test_lines_move_by_what_the_pieces_ahead_put_more(self):
        change = [(1, ["b"], ["x", "y"]), (3, [], ["z"]), (5, ["f", "g"], [])]
        told = [now_at(change, number) for number in range(9)]
        self.assertEqual(told, [0, None, 3, 5, 6, None, None, 7, 8])

    def test_a_line_at_the_place_of_a_piece_that_takes_nothing_goes_behind_it(self):
        self.assertEqual(now_at([(2, [], ["x"])], 2), 3)
        self.assertEqual(now_at([(2, [], ["x"])], 1), 1)

    def test_the_lines_of_all_small_pages_are_where_it_says(self):
        for page in pages("a", 4):
            marked = [str(number) for number in range(len(page))]
            for change in changes(marked, OPTIONS):
                after = slow_done(marked, change)
                for number, line in enumerate(marked):
                    stands = after.index(line) if line in after else None
                    self.assertEqual(now_at(change, number), stands)

    def test_lines_behind_all_pieces(self):
        self.assertEqual(now_at([(0, ["a"], [])], 9999), 9998)
        self.assertEqual(now_at([(2000, [], ["a"])], 2000), 2001)


class Turned(unittest.TestCase):
    def test_takes_and_puts_change_places(self):
        change = [(1, ["b"], ["x", "y"]), (3, [], ["z"]), (5, ["f", "g"], [])]
        self.assertEqual(turned(change), [(1, ["x", "y"], ["b"]), (4, ["z"], []), (7, [], ["f", "g"])])
        self.assertEqual(turned([]), [])

    def test_done_and_turned_about_the_page_is_as_it_was(self):
        for page, change in all_small():
            back = turned(change)
            self.assertTrue(is_valid(back))
            self.assertEqual([(puts, takes) for _, takes, puts in change], [piece[1:] for piece in back])
            self.assertEqual(done(done(page, change), back), page)
            self.assertEqual(turned(back), change)

    def test_what_is_told_is_new(self):
        lines = ["a", "b"]
        change = [(0, lines, lines), (4, lines, lines)]
        back = turned(change)
        self.assertFalse(share_lists(back, lines))
        back[0][1].append("x")
        self.assertEqual(change, [(0, ["a", "b"], ["a", "b"]), (4, ["a", "b"], ["a", "b"])])


if __name__ == "__main__":
    unittest.main()
