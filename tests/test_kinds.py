"""Points 1 and 2: what is handed in, its bounds, and what is refused first."""

import unittest

from patchlay.answers import Made, Most
from patchlay.bench import Bench
from patchlay.changes import done, fits, now_at, turned
from patchlay.errors import BadChange, BadNumber, BadPage, BadRows, BadSheet, Clash, NotFitting, TooFew
from patchlay.making import made
from patchlay.pairs import behind, beside, exchanged, merged
from patchlay.sheets import around, laid, least_around, most
from patchlay.texts import read, written
from wrong import BAD_CHANGES, BAD_PAGES, BAD_SHEETS, KINDS, LONG, MANY, NO_NUMBERS, refused


class Pages(unittest.TestCase):
    def test_what_is_no_page_is_refused(self):
        for page in BAD_PAGES:
            with self.subTest(page=str(page)[:60]):
                refused(self, BadPage, done, page, [])
                refused(self, BadPage, fits, page, [])
                refused(self, BadPage, Made([], [[0]]).shows, page, [])
                refused(self, BadPage, Made([], [[0]]).shows, [], page)
                refused(self, BadPage, Most([], [[-1, None]]).shows, page, [])
                refused(self, BadPage, made, page, [])
                refused(self, BadPage, made, [], page)
                refused(self, BadPage, around, page, [])
                refused(self, BadPage, least_around, page, [])
                refused(self, BadPage, laid, page, [])
                refused(self, BadPage, most, page, [])
                if page is not None:
                    refused(self, BadPage, Bench, page)

    def test_each_sign_from_the_blank_to_the_tilde_may_stand_in_a_line(self):
        signs = "".join(chr(number) for number in range(32, 127))
        page = [signs, "", " "] + list(signs)
        self.assertEqual(done(page, [(0, [signs], [signs * 3])]), [signs * 3] + page[1:])

    def test_a_page_at_its_bound(self):
        page = ["a"] * 2000
        self.assertTrue(fits(page, []))
        self.assertEqual(done(page, [(2000, [], ["b"])]), page + ["b"])
        self.assertEqual(done([], []), [])

    def test_what_is_told_may_be_longer(self):
        page = ["a"] * 2000
        told = done(page, [(4 * at, [], ["b"] * 500) for at in range(500)])
        self.assertEqual(len(told), 2000 + 500 * 500)
        refused(self, BadPage, done, told, [])


class Changes(unittest.TestCase):
    def test_what_is_no_change_is_refused(self):
        for change in BAD_CHANGES:
            with self.subTest(change=str(change)[:60]):
                refused(self, BadChange, done, ["a"], change)
                refused(self, BadChange, fits, ["a"], change)
                refused(self, BadChange, now_at, change, 0)
                refused(self, BadChange, turned, change)
                refused(self, BadChange, around, ["a"], change)
                refused(self, BadChange, least_around, ["a"], change)
                refused(self, BadChange, Bench(["a"]).do, change)
                for function in (behind, beside, merged, exchanged):
                    refused(self, BadChange, function, change, [])
                    refused(self, BadChange, function, [], change)

    def test_changes_at_their_bounds(self):
        for change in (LONG, MANY, []):
            self.assertFalse(fits(["b"], change) and change)
            self.assertEqual(turned(turned(change)), change)
            self.assertEqual(behind(change, []), change)
            self.assertEqual(behind([], change), change)
            self.assertEqual(beside(change, change).one, [])
            self.assertEqual(merged(change, []), change)
            self.assertEqual(exchanged(change, []), ([], change))
        self.assertEqual(now_at(LONG, 9999), 9999)
        self.assertEqual(now_at(MANY, 9999), 9499)

    def test_pieces_that_lie_as_near_as_they_may(self):
        change = [(0, ["a"], []), (2, [], ["x"]), (3, ["d"], ["y"])]
        self.assertEqual(done(["a", "b", "c", "d"], change), ["b", "x", "c", "y"])

    def test_told_changes_may_be_longer(self):
        far = turned([(0, [], ["a"] * 500), (2000, ["b"], [])])
        self.assertEqual(far, [(0, ["a"] * 500, []), (2500, [], ["b"])])
        refused(self, BadChange, turned, far)


class Numbers(unittest.TestCase):
    def test_what_is_no_number_from_0_to_9999_is_refused(self):
        for number in NO_NUMBERS + [-1, 10000, 10 ** 30, -10 ** 30]:
            refused(self, BadNumber, now_at, [], number)

    def test_what_is_no_number_from_0_to_9_is_refused(self):
        for number in NO_NUMBERS + [-1, 10, 10 ** 30, -10 ** 30]:
            refused(self, BadNumber, around, [], [], number)
            refused(self, BadNumber, laid, [], [], number)
            refused(self, BadNumber, Bench().lay, [], number)

    def test_numbers_at_their_bounds(self):
        self.assertEqual(now_at([], 0), 0)
        self.assertEqual(now_at([], 9999), 9999)
        for number in (0, 9):
            self.assertEqual(around([], [], number), [])
            self.assertEqual(laid([], [], number).spots, [])
            self.assertEqual(Bench().lay([], number), [])

    def test_pages_of_more_than_40_lines_are_not_made(self):
        for old, new in ((41, 0), (0, 41), (41, 41), (2000, 40)):
            refused(self, BadNumber, made, ["a"] * old, ["a"] * new)
        refused(self, BadPage, made, ["a"] * 41, ["\n"])
        refused(self, BadPage, made, [1], ["a"] * 41)
        refused(self, BadPage, made, ["a"] * 2001, [])


class Order(unittest.TestCase):
    def test_the_page_goes_first_then_the_change_then_the_number_then_the_fit(self):
        refused(self, BadPage, done, None, None)
        refused(self, BadPage, fits, ("a",), [(0, [], [])])
        refused(self, BadPage, done, [1], [(0, ["b"], [])])
        refused(self, BadChange, done, ["a"], [(0, ["b"], []), (0, ["b"], [])])
        refused(self, BadChange, done, ["a"], [(9, ["b"], []), None])
        refused(self, BadChange, now_at, None, None)
        refused(self, BadChange, now_at, [(0, [], [])], True)
        refused(self, NotFitting, done, ["a"], [(0, ["b"], [])])

    def test_the_page_then_the_change_then_the_number_then_the_fit_of_sheets(self):
        unfit = [(0, ["b"], [])]
        refused(self, BadPage, around, None, None, None)
        refused(self, BadPage, around, ["\n"], unfit, 10)
        refused(self, BadPage, around, (), [(0, [], [])], -1)
        refused(self, BadChange, around, ["a"], unfit + [()], True)
        refused(self, BadNumber, around, ["a"], unfit, 10)
        refused(self, BadNumber, around, ["a"], unfit, None)
        refused(self, NotFitting, around, ["a"], unfit, 9)
        refused(self, BadPage, least_around, [None], None)
        refused(self, BadChange, least_around, ["a"], unfit + [()])
        refused(self, NotFitting, least_around, ["a"], unfit)

    def test_the_page_then_the_sheet_then_the_number(self):
        unfit = [(0, [], ["b"], [], [])]
        refused(self, BadPage, laid, None, None, None)
        refused(self, BadPage, laid, [0], [], 10)
        refused(self, BadSheet, laid, [], None, True)
        refused(self, BadSheet, laid, [], unfit + [()], 10)
        refused(self, BadNumber, laid, [], unfit, 10)
        refused(self, BadPage, most, None, None)
        refused(self, BadSheet, most, [], None)

    def test_the_order_of_a_benchs_refusals(self):
        refused(self, BadSheet, Bench().lay, [()], True)
        refused(self, BadNumber, Bench().lay, [(0, [], ["b"], [], [])], True)
        refused(self, TooFew, Bench().lay, [(0, [], ["b"], [], [])], 9)
        refused(self, BadChange, Bench().do, [(0, ["b"], []), ()])
        refused(self, NotFitting, Bench().do, [(0, ["b"], [])])

    def test_a_change_goes_ahead_of_the_clash(self):
        one = [(0, [], ["x"])]
        refused(self, Clash, behind, one, [(0, ["y"], [])])
        refused(self, BadChange, behind, one, [(0, ["y"], []), (1, [], ["z"])])
        refused(self, BadChange, behind, one + [()], [(0, ["y"], [])])

    def test_the_page_goes_ahead_of_the_sheet(self):
        refused(self, BadPage, Most([], []).shows, None, None)
        refused(self, BadSheet, Most([], []).shows, [], None)


class Sheets(unittest.TestCase):
    def test_what_is_no_sheet_is_refused(self):
        for sheet in BAD_SHEETS:
            with self.subTest(sheet=str(sheet)[:60]):
                refused(self, BadSheet, Most([], [[-1, None]]).shows, ["a"], sheet)
                refused(self, BadSheet, laid, ["a"], sheet)
                refused(self, BadSheet, most, ["a"], sheet)
                refused(self, BadSheet, written, sheet)
                refused(self, BadSheet, Bench(["a"]).lay, sheet)

    def test_sheets_at_their_bounds(self):
        nine = ["a"] * 9
        sheet = [(2 * at, nine, ["b"], ["c"], nine) for at in range(500)]
        most = Most([None] * 500, [[-1, None]] + [[-1, None]] * 500)
        self.assertTrue(most.shows(["a"] * 2000, sheet))
        self.assertTrue(Most([None], [[-1, None]] * 2).shows([], [(2000, [], ["a"] * 500, ["a"] * 500, [])]))

    def test_whole_sheets_at_their_bounds(self):
        nine = ["x"] * 9
        sheet = [(4 * at, nine, ["a"], ["b"] * 500, nine) for at in range(500)]
        self.assertEqual(laid(["a"] * 2000, sheet).spots, [None] * 500)
        self.assertEqual(laid(["a"] * 2000, sheet, 9).spots, [(4 * at, 9) for at in range(500)])
        self.assertEqual(most(["a"] * 2000, sheet).places, [None] * 500)
        self.assertEqual(read(written(sheet)), sheet)
        self.assertEqual(len(Bench(["a"] * 2000).lay(sheet, 9)), 1500 + 500 * 500)
        far = [(2000, nine, ["a"] * 500, [], nine)]
        self.assertEqual(laid(["a"] * 500, far, 9).spots, [(0, 9)])
        self.assertEqual(read(written(far)), far)


class Texts(unittest.TestCase):
    def test_what_is_no_text_is_refused_at_row_0(self):
        for text in KINDS:
            if not isinstance(text, str):
                with self.assertRaises(BadRows) as caught:
                    read(text)
                self.assertEqual(caught.exception.row, 0)


if __name__ == "__main__":
    unittest.main()
