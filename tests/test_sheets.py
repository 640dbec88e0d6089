"""Points 9 to 13: sheets told of a change, laid on a page, as many of their pieces as can be."""

import copy
import random
import unittest

from patchlay.answers import Laid, Most
from patchlay.sheets import around, laid, least_around, most
from small import changes, is_own, is_valid, pages, placed, slow_around, slow_done, slow_fit, slow_most, slow_spots

OPTIONS = [[], ["a"]]


def some_sheet(chance, signs, pieces=4, lines=3):
    """A sheet by chance; most of its pieces fit some page of few signs."""
    def some(most_lines):
        return [chance.choice(signs) for _ in range(chance.randrange(most_lines + 1))]

    sheet = []
    place = chance.randrange(3)
    for _ in range(chance.randrange(pieces + 1)):
        takes, puts = some(2), some(1)
        if not takes and not puts:
            puts = ["x"]
        sheet.append((place, some(lines), takes, puts, some(lines)))
        place += len(takes) + chance.choice((1, 1, 2, 3))
    return sheet


class Around(unittest.TestCase):
    def check(self, page, change, many):
        before = copy.deepcopy((page, change))
        sheet = around(page, change, many)
        self.assertEqual((page, change), before)
        self.assertEqual(sheet, slow_around(page, change, many))
        self.assertTrue(all(type(piece) is tuple for piece in sheet))
        self.assertTrue(is_own(sheet, change, page))
        return sheet

    def test_all_small_ones(self):
        for page in pages("ab", 4):
            for change in changes(page, OPTIONS):
                for many in (0, 1, 2, 9):
                    self.check(page, change, many)

    def test_each_number_of_lines(self):
        page = [str(number) for number in range(30)]
        change = [(3, ["3"], []), (15, [], ["x"]), (29, ["29"], ["y"])]
        for many in range(10):
            sheet = self.check(page, change, many)
            self.assertEqual([len(sheet[1][1]), len(sheet[1][4])], [many, many])
            self.assertEqual([len(sheet[0][1]), len(sheet[2][4])], [min(3, many), 0])

    def test_three_lines_where_no_number_is_said(self):
        page = list("abcdefghi")
        change = [(4, ["e"], ["x"])]
        self.assertEqual(around(page, change), [(4, ["b", "c", "d"], ["e"], ["x"], ["f", "g", "h"])])
        self.assertEqual(around(page, change), around(page, change, many=3))

    def test_no_lines(self):
        self.assertEqual(around(["a", "b"], [(1, ["b"], [])], 0), [(1, [], ["b"], [], [])])

    def test_empty_ones(self):
        self.assertEqual(around([], [], 9), [])
        self.assertEqual(around(["a"], [], 9), [])
        self.assertEqual(around([], [(0, [], ["a"])], 9), [(0, [], [], ["a"], [])])

    def test_lines_between_two_pieces_are_lines_around_of_both(self):
        page = list("abcdef")
        change = [(1, ["b"], []), (4, ["e"], ["x"])]
        self.assertEqual(self.check(page, change, 9),
                         [(1, ["a"], ["b"], [], ["c", "d"]), (4, ["c", "d"], ["e"], ["x"], ["f"])])
        self.assertEqual(self.check(page, change, 1), [(1, ["a"], ["b"], [], ["c"]), (4, ["d"], ["e"], ["x"], ["f"])])

    def test_a_place_that_takes_nothing_lets_no_lines_beyond_it(self):
        page = list("abcd")
        change = [(1, [], ["x"]), (2, [], ["y"]), (3, ["d"], [])]
        self.assertEqual(self.check(page, change, 9), [(1, ["a"], [], ["x"], ["b"]), (2, ["b"], [], ["y"], ["c"]),
                                                       (3, ["c"], ["d"], [], [])])

    def test_a_piece_at_the_pages_end(self):
        self.assertEqual(self.check(["a", "b"], [(2, [], ["x"])], 9), [(2, ["a", "b"], [], ["x"], [])])
        self.assertEqual(self.check(["a", "b"], [(0, [], ["x"])], 1), [(0, [], [], ["x"], ["a"])])

    def test_what_is_told_is_the_askers_own(self):
        page, change = ["a", "b", "c"], [(1, ["b"], ["x"])]
        told = around(page, change)
        page[0] = "q"
        change[0][2][0] = "q"
        self.assertEqual(told, [(1, ["a"], ["b"], ["x"], ["c"])])
        again = around(["a", "b", "c"], [(1, ["b"], ["x"])])
        told[0][2].append("q")
        self.assertEqual(again, [(1, ["a"], ["b"], ["x"], ["c"])])


class Laying(unittest.TestCase):
    def check(self, page, sheet, level):
        before = copy.deepcopy((page, sheet))
        told = laid(page, sheet, level)
        self.assertEqual((page, sheet), before)
        self.assertIs(type(told), Laid)
        spots, lacking = slow_spots(page, sheet, level)
        self.assertEqual(told.spots, spots)
        self.assertEqual(told.lacking, lacking)
        self.assertTrue(all(type(spot) is tuple for spot in told.spots if spot is not None))
        self.assertTrue(all(type(pair) is tuple for pairs in told.lacking for pair in pairs))
        self.assertTrue(is_valid(told.change))
        self.assertEqual(told.change, [(spot[0], piece[2], piece[3]) for spot, piece in zip(spots, sheet) if spot])
        slow_done(page, told.change)
        self.assertTrue(is_own([told.change, told.spots, told.lacking], sheet, page))
        return told

    def test_all_small_pages_and_single_pieces(self):
        around_ = [[], ["a"], ["b"], ["a", "b"]]
        parts = [([], ["x"]), (["a"], []), (["a", "b"], ["x"])]
        sheet_pieces = [(place, ahead, takes, puts, after) for place in (0, 2, 9) for ahead in around_
                        for takes, puts in parts for after in around_]
        for page in pages("ab", 4):
            for piece in sheet_pieces:
                for level in (0, 1, 2, 9):
                    self.check(page, [piece], level)

    def test_many_sheets(self):
        chance = random.Random(12)
        refused = 0
        whole = 0
        for _ in range(6000):
            page = [chance.choice("ab") for _ in range(chance.randrange(9))]
            told = self.check(page, some_sheet(chance, "ab"), chance.choice((0, 0, 1, 2, 3, 9)))
            refused += None in told.spots
            whole += None not in told.spots
        self.assertGreater(refused, 500)
        self.assertGreater(whole, 500)

    def test_sheets_of_a_change_on_pages_moved_on(self):
        chance = random.Random(13)
        for _ in range(1500):
            page = [chance.choice("abcd") for _ in range(chance.randrange(6, 20))]
            sheet = around(page, chance.choice(changes(page[:4], OPTIONS)), chance.randrange(10))
            moved = list(page)
            for _ in range(chance.randrange(5)):
                at = chance.randrange(len(moved) + 1)
                moved[at:at + chance.randrange(2)] = [chance.choice("abcd")] * chance.randrange(2)
            self.check(moved, sheet, chance.randrange(10))

    def test_the_kinds_of_what_is_told(self):
        told = laid(["a", "b"], [(0, [], ["a"], [], []), (5, [], ["q"], [], [])])
        self.assertEqual((told.spots, told.change, told.lacking), ([(0, 0), None], [(0, ["a"], [])], [[]]))
        told = laid(["a", "b"], [(5, [], ["q"], [], [])])
        self.assertEqual((told.spots, told.change, told.lacking), ([None], [], [[(0, 0), (1, 0)]]))

    def test_empty_pages_and_sheets(self):
        self.assertEqual(self.check([], [], 0).spots, [])
        self.assertEqual(self.check(["a"], [], 9).change, [])
        self.assertEqual(self.check([], [(7, [], [], ["x"], [])], 0).spots, [(0, 0)])
        self.assertEqual(self.check([], [(7, ["a"], [], ["x"], ["b"])], 0).lacking, [[(0, 0)]])
        self.assertEqual(self.check([], [(7, ["a"], [], ["x"], ["b"])], 1).spots, [(0, 1)])
        self.assertEqual(self.check([], [(0, [], ["a"], [], [])], 9).lacking, [[]])

    def test_level_0_where_none_is_said(self):
        sheet = [(1, ["q"], ["b"], [], [])]
        self.assertEqual(laid(["a", "b"], sheet).spots, [None])
        self.assertEqual(laid(["a", "b"], sheet, level=1).spots, [(1, 1)])

    def test_the_nearest_place_and_of_two_as_near_the_greater_one(self):
        page = list("xaxxaxxxxxax")
        self.assertEqual(self.check(page, [(0, [], ["a"], [], [])], 0).spots, [(1, 0)])
        self.assertEqual(self.check(page, [(2, [], ["a"], [], [])], 0).spots, [(1, 0)])
        self.assertEqual(self.check(page, [(3, [], ["a"], [], [])], 0).spots, [(4, 0)])
        self.assertEqual(self.check(page, [(7, [], ["a"], [], [])], 0).spots, [(10, 0)])
        self.assertEqual(self.check(page, [(2000, [], ["a"], [], [])], 0).spots, [(10, 0)])

    def test_the_least_level_goes_ahead_of_the_nearest_place(self):
        page = list("qaxxxxxxba")
        sheet = [(1, ["b"], ["a"], [], [])]
        self.assertEqual(self.check(page, sheet, 0).spots, [(9, 0)])
        self.assertEqual(self.check(page, sheet, 9).spots, [(9, 0)])
        self.assertEqual(self.check(page[:-1], sheet, 9).spots, [(1, 1)])

    def test_outermost_lines_are_left_out_first(self):
        page = list("abcde")
        sheet = [(2, ["q", "b"], ["c"], [], ["d", "q"])]
        self.assertEqual(self.check(page, sheet, 0).spots, [None])
        self.assertEqual(self.check(page, sheet, 1).spots, [(2, 1)])
        self.assertEqual(self.check(page, [(2, ["b", "q"], ["c"], [], ["d"])], 1).spots, [None])
        self.assertEqual(self.check(page, [(2, ["b", "q"], ["c"], [], ["d"])], 2).spots, [(2, 2)])

    def test_where_there_are_no_more_lines_none_are_left_out(self):
        page = list("abcde")
        sheet = [(2, ["b"], ["c"], [], ["d", "e", "q"])]
        self.assertEqual(self.check(page, sheet, 1).spots, [(2, 1)])
        self.assertEqual(self.check(page, [(2, [], ["c"], [], ["q", "e", "a"])], 2).spots, [None])
        self.assertEqual(self.check(page, [(2, [], ["c"], [], ["q", "e", "a"])], 9).spots, [(2, 3)])
        self.assertEqual(self.check(page, [(0, ["q"] * 9, ["c"], [], ["q"] * 9)], 9).spots, [(2, 9)])
        self.assertEqual(self.check(page, [(0, ["q"] * 9, ["c"], [], ["q"] * 9)], 8).spots, [None])

    def test_lines_beyond_the_page_do_not_stand(self):
        page = ["a", "b", "a"]
        self.assertEqual(self.check(page, [(0, ["a"], ["a"], [], [])], 0).spots, [None])
        self.assertEqual(self.check(page, [(0, ["b", "a"], ["b"], [], [])], 0).spots, [None])
        self.assertEqual(self.check(page, [(0, ["b", "a"], ["b"], [], [])], 1).spots, [(1, 1)])
        self.assertEqual(self.check(page, [(0, [], ["a"], [], ["a"])], 0).spots, [None])
        self.assertEqual(self.check(["a"], [(0, ["a"] * 5, ["a"], [], ["a"] * 5)], 4).spots, [None])
        self.assertEqual(self.check(["a"], [(0, ["a"] * 5, ["a"], [], ["a"] * 5)], 5).spots, [(0, 5)])

    def test_pieces_that_take_nothing(self):
        page = list("abab")
        self.assertEqual(self.check(page, [(0, ["b"], [], ["x"], [])], 0).spots, [(2, 0)])
        self.assertEqual(self.check(page, [(3, ["b"], [], ["x"], [])], 0).spots, [(4, 0)])
        self.assertEqual(self.check(page, [(3, ["b"], [], ["x"], ["a"])], 0).spots, [(2, 0)])
        self.assertEqual(self.check(page, [(9, [], [], ["x"], [])], 0).spots, [(4, 0)])
        sheet = [(0, [], [], ["x"], []), (1, [], [], ["y"], []), (2, [], [], ["z"], [])]
        self.assertEqual(self.check(["a"], sheet, 0).spots, [(0, 0), (1, 0), None])
        self.assertEqual(self.check(["a"], sheet, 0).lacking, [[]])

    def test_each_is_due_as_much_further_as_the_last_laid_one_lies(self):
        page = ["n"] * 5 + list("axaxaxaxa")
        further = [(0, [], ["a"], [], []), (4, [], ["a"], [], [])]
        self.assertEqual(self.check(page, further, 0).spots, [(5, 0), (9, 0)])
        # Were it due at its own place, the first one behind the laid one would be the nearest.
        nearer = [(9, [], ["a"], [], []), (13, [], ["x"], [], [])]
        self.assertEqual(self.check(list("xxaxxx"), nearer, 0).spots, [(2, 0), (5, 0)])
        self.assertEqual(self.check(list("xxaxxxxxxxxxx"), nearer, 0).spots, [(2, 0), (6, 0)])

    def test_a_refused_piece_moves_no_due_place(self):
        page = ["n"] * 5 + list("axaxaxaxa")
        sheet = [(0, [], ["a"], [], []), (2, [], ["q"], [], []), (4, [], ["a"], [], [])]
        self.assertEqual(self.check(page, sheet, 0).spots, [(5, 0), None, (9, 0)])
        self.assertEqual(self.check(page, sheet[1:], 0).spots, [None, (5, 0)])

    def test_a_last_laid_one_that_lies_nearer_than_its_own_place(self):
        # The first one lies nine lines nearer, so the second one is due at 3 and the third one at 6.
        sheet = [(10, ["q"], ["a"], [], []), (12, [], ["b"], [], []), (15, [], ["b"], [], [])]
        page = list("qabbbbbbbbbbbbbb")
        self.assertEqual(self.check(page, sheet, 0).spots, [(1, 0), (3, 0), (6, 0)])
        self.assertEqual(self.check(page[:6], sheet, 0).spots, [(1, 0), (3, 0), (5, 0)])
        # As near as can be to the page's beginning, and from there no further than due.
        self.assertEqual(self.check(["a"], [(2000, [], ["a"], [], [])], 0).spots, [(0, 0)])
        sheet = [(1997, [], [], ["x"], ["a"]), (1999, [], [], ["y"], []), (2000, [], [], ["z"], [])]
        self.assertEqual(self.check(list("abcb"), sheet, 0).spots, [(0, 0), (2, 0), (3, 0)])
        self.assertEqual(self.check(["a"], sheet, 0).spots, [(0, 0), (1, 0), None])

    def test_a_place_at_the_end_of_the_last_laid_one_is_none(self):
        page = ["a", "b", "a", "b"]
        sheet = [(0, [], ["a"], [], []), (2, [], ["b"], [], [])]
        self.assertEqual(self.check(page, sheet, 0).spots, [(0, 0), (3, 0)])
        self.assertEqual(self.check(page[:2], sheet, 0).spots, [(0, 0), None])
        self.assertEqual(self.check(page[:2], sheet, 0).lacking, [[]])

    def test_a_piece_that_fits_only_ahead_of_the_end_of_the_last_laid_one(self):
        page = ["b", "q", "a", "c", "c"]
        sheet = [(0, [], ["a"], [], []), (2, [], ["b"], [], ["q"])]
        told = self.check(page, sheet, 0)
        self.assertEqual(told.spots, [(2, 0), None])
        self.assertEqual(told.lacking, [[(4, 0)]])
        self.assertEqual(self.check(page, sheet, 9).spots, [(2, 0), None])

    def test_a_lower_level_below_the_end_does_not_keep_it_from_a_higher_one_above(self):
        page = ["q", "b", "a", "x", "x", "b"]
        sheet = [(0, [], ["a"], [], []), (2, ["q"], ["b"], [], [])]
        self.assertEqual(self.check(page, sheet, 1).spots, [(2, 0), (5, 1)])

    def test_a_piece_that_fits_nowhere(self):
        page = list("abcabd")
        told = self.check(page, [(0, ["a"], ["b"], [], ["q"])], 0)
        self.assertEqual(told.spots, [None])
        self.assertEqual(told.change, [])
        self.assertEqual(told.lacking, [[(0, 0), (1, 2), (2, 0), (3, 0), (4, 2), (5, 0)]])
        told = self.check(page, [(0, ["q", "a"], ["b", "x"], [], ["q"])], 1)
        self.assertEqual(told.lacking, [[(0, 0), (1, 2), (2, 0), (3, 0), (4, 2)]])

    def test_the_lines_ahead_that_are_left_out_are_not_counted(self):
        page = list("abc")
        piece = (1, ["q", "a"], ["b", "x"], [], [])
        self.assertEqual(self.check(page, [piece], 0).lacking, [[(0, 0), (1, 0)]])
        self.assertEqual(self.check(page, [piece], 1).lacking, [[(0, 0), (1, 2)]])
        self.assertEqual(self.check(page, [piece], 2).lacking, [[(0, 0), (1, 1)]])
        self.assertEqual(self.check(page, [piece], 9).lacking, [[(0, 0), (1, 1)]])

    def test_places_without_room_are_not_told(self):
        told = self.check(list("abc"), [(0, [], ["a", "b", "x"], [], [])], 0)
        self.assertEqual(told.lacking, [[(0, 2)]])
        self.assertEqual(self.check(list("abc"), [(0, [], list("abcd"), [], [])], 0).lacking, [[]])
        told = self.check(list("abc"), [(0, ["q"], [], ["x"], [])], 0)
        self.assertEqual(told.lacking, [[(0, 0), (1, 0), (2, 0), (3, 0)]])
        # Lines around need no room: there they don't stand.
        told = self.check(list("abc"), [(0, [], ["c"], [], ["d"])], 0)
        self.assertEqual(told.lacking, [[(0, 0), (1, 0), (2, 1)]])

    def test_several_refused_ones(self):
        page = list("abcdef")
        sheet = [(0, [], ["q"], [], []), (3, [], ["c"], [], []), (5, [], ["r"], [], []), (8, [], ["f"], [], ["s"])]
        told = self.check(page, sheet, 0)
        self.assertEqual(told.spots, [None, (2, 0), None, None])
        self.assertEqual(told.lacking, [[(at, 0) for at in range(6)], [(4, 0), (5, 0)], [(4, 0), (5, 1)]])

    def test_a_page_shorter_than_the_lines_around(self):
        nine = ["a"] * 9
        for many in range(6):
            for level in range(10):
                self.check(["a"] * many, [(4, nine, ["a"], [], nine)], level)
        self.assertEqual(self.check(["a"] * 5, [(2, nine, ["a"], [], nine)], 9).spots, [(2, 7)])
        self.assertEqual(self.check(["a"] * 4, [(0, nine, ["a"], [], nine)], 9).spots, [(1, 8)])

    def test_what_is_told_is_the_askers_own(self):
        sheet = [(0, [], ["a"], ["x"], []), (2, [], ["q"], [], [])]
        page = ["a", "b", "c"]
        told = laid(page, sheet)
        sheet[0][3][0] = "q"
        page[0] = "q"
        self.assertEqual(told.change, [(0, ["a"], ["x"])])
        told.change[0][1].append("z")
        told.lacking[0].append("z")
        self.assertEqual(sheet[0], (0, [], ["a"], ["q"], []))
        self.assertEqual(laid(["a", "b", "c"], sheet).lacking, [[(2, 0)]])

    def test_large_ones_of_like_lines(self):
        page = ["a"] * 2000
        sheet = [(4 * at, ["a"] * 9, ["a"] * 3, ["b"], ["a"] * 9) for at in range(500)]
        told = laid(page, sheet, 9)
        # The first one would like to lie at 0; there no line ahead stands, so it is laid behind nine.
        self.assertEqual(told.spots[:3], [(9, 0), (13, 0), (17, 0)])
        self.assertEqual(len([spot for spot in told.spots if spot is None]), 2)
        self.assertEqual(told.spots[495:], [(1989, 1), (1993, 5), (1997, 9), None, None])
        self.assertEqual(told.lacking, [[], []])
        refused = [(4 * at, ["a"] * 9, ["a"] * 2 + ["b"], [], []) for at in range(500)]
        told = laid(page, refused)
        self.assertEqual(told.lacking[499][9:], [(place, 11) for place in range(9, 1998)])
        self.assertEqual(told.lacking[499][:9], [(place, 0) for place in range(9)])


class LeastAround(unittest.TestCase):
    def slow(self, page, change):
        told = []
        for at, piece in enumerate(change):
            fitting = [many for many in range(10) if [place for place in range(len(page) + 1) if slow_fit(
                page, slow_around(page, change, many)[at], place)] == [piece[0]]]
            told.append(fitting[0] if fitting else None)
        return told

    def check(self, page, change):
        before = copy.deepcopy((page, change))
        told = least_around(page, change)
        self.assertEqual((page, change), before)
        self.assertEqual(told, self.slow(page, change))
        return told

    def test_all_small_ones(self):
        for page in pages("ab", 4):
            for change in changes(page, OPTIONS):
                self.check(page, change)

    def test_many_larger_ones(self):
        chance = random.Random(14)
        seen = []
        for _ in range(600):
            page = [chance.choice("aaab") for _ in range(chance.randrange(24))]
            change = []
            place = chance.randrange(8)
            while place <= len(page):
                takes = page[place:place + chance.randrange(3)]
                change.append((place, takes, ["x"]))
                place += len(takes) + chance.randrange(1, 14)
            seen += self.check(page, change)
        self.assertEqual([many for many in list(range(10)) + [None] if many not in seen], [])

    def test_plain_ones(self):
        page = list("abcabd")
        self.assertEqual(self.check(page, [(2, ["c"], [])]), [0])
        self.assertEqual(self.check(page, [(0, ["a"], ["x"])]), [2])
        self.assertEqual(self.check(page, [(1, ["b"], []), (4, [], ["x"])]), [1, 2])
        self.assertEqual(self.check(page, []), [])
        self.assertEqual(self.check([], [(0, [], ["x"])]), [0])

    def test_0_and_9_and_none(self):
        page = ["a"] * 19
        # Of 19 like lines those around reach the page's ends just once.
        self.assertEqual(self.check(page, [(9, ["a"], [])]), [9])
        self.assertEqual(self.check(page + ["a"], [(9, ["a"], [])]), [None])
        self.assertEqual(self.check(["b"] + page + ["b"], [(10, ["a"], [])]), [9])
        self.assertEqual(self.check(["b"] + page + ["a", "b"], [(10, ["a"], [])]), [None])
        self.assertEqual(self.check(page + ["b"], [(19, ["b"], [])]), [0])
        self.assertEqual(self.check(["a"] * 18, [(9, [], ["x"])]), [9])

    def test_other_pieces_keep_lines_away(self):
        page = list("abcabd")
        # Its lines behind end where the next one takes, so they don't reach what would tell it apart.
        self.assertEqual(self.check(page, [(0, ["a"], []), (2, [], ["x"])]), [None, 1])
        self.assertEqual(self.check(page, [(0, ["a"], ["x"])]), [2])

    def test_a_place_at_the_pages_end(self):
        self.assertEqual(self.check(["a", "a"], [(2, [], ["x"])]), [2])
        self.assertEqual(self.check(["a", "b"], [(2, [], ["x"])]), [1])
        self.assertEqual(self.check(["a", "a"], [(0, [], ["x"])]), [2])


class MostPieces(unittest.TestCase):
    def check(self, page, sheet):
        before = copy.deepcopy((page, sheet))
        told = most(page, sheet)
        self.assertEqual((page, sheet), before)
        self.assertIs(type(told), Most)
        self.assertIs(told.shows(page, sheet), True)
        self.assertEqual(placed(told.places), placed(slow_most(page, sheet)[0]))
        end = -1
        for place, piece in zip(told.places, sheet):
            if place is not None:
                self.assertTrue(slow_fit(page, piece, place) and place > end)
                end = place + len(piece[2])
        self.holds(page, sheet, told)
        self.assertTrue(is_own([told.places, told.marks], sheet, page))
        return told.places

    def holds(self, page, sheet, told):
        """Assert that the marks are as the document tells, not as `shows` does."""
        marks = told.marks
        self.assertEqual(len(told.places), len(sheet))
        self.assertEqual([len(row) for row in marks], [placed(told.places) + 2] * (len(sheet) + 1))
        self.assertEqual(marks[0][0], -1)
        self.assertIsNone(marks[-1][-1])
        for row, below, piece in zip(marks, marks[1:], sheet):
            for count, mark in enumerate(row):
                if mark is not None:
                    self.assertLessEqual(below[count], mark)
                    fitting = [place for place in range(len(page) + 1) if place > mark and slow_fit(page, piece, place)]
                    if fitting:
                        self.assertLessEqual(below[count + 1], fitting[0] + len(piece[2]))

    def test_all_small_pages_and_pieces(self):
        parts = [([], ["x"], []), (["a"], [], []), (["a", "b"], [], []), (["b"], [], ["a"]), ([], ["x"], ["b"])]
        for page in pages("ab", 4):
            for first in parts:
                for second in parts:
                    self.check(page, [(0, []) + first, (5, []) + second])

    def test_many_sheets(self):
        chance = random.Random(15)
        for _ in range(2000):
            page = [chance.choice("ab") for _ in range(chance.randrange(9))]
            self.check(page, some_sheet(chance, "ab", 5, 1))

    def test_empty_ones(self):
        self.assertEqual(self.check([], []), [])
        self.assertEqual(most([], []).marks, [[-1, None]])
        self.assertEqual(self.check(["a"], []), [])
        self.assertEqual(self.check([], [(7, [], [], ["x"], []), (9, [], [], ["x"], [])]).count(0), 1)
        self.assertEqual(self.check([], [(7, [], ["a"], ["x"], [])]), [None])

    def test_taking_the_first_one_each_time_is_not_the_most(self):
        page = list("aaaab")
        # The first piece fits only at the end; laid, it keeps both others away.
        sheet = [(0, [], ["b"], [], []), (2, [], ["a"], [], []), (4, [], ["a"], [], [])]
        self.assertEqual(laid(page, sheet).spots, [(4, 0), None, None])
        places = self.check(page, sheet)
        self.assertEqual([places[0], placed(places)], [None, 2])

    def test_the_nearest_place_each_time_is_not_the_most(self):
        page = list("axaxax")
        sheet = [(4, [], ["a"], [], []), (6, [], ["a"], [], []), (8, [], ["a"], [], [])]
        self.assertEqual(laid(page, sheet).spots, [(4, 0), None, None])
        self.assertEqual(self.check(page, sheet), [0, 2, 4])

    def test_all_lines_around_must_stand(self):
        page = list("abcab")
        self.assertEqual(self.check(page, [(0, ["b"], ["c"], [], ["a"])]), [2])
        self.assertEqual(self.check(page, [(0, ["q", "b"], ["c"], [], [])]), [None])
        self.assertEqual(self.check(page, [(0, [], ["a"], [], ["b", "q"])]), [None])
        self.assertEqual(self.check(page, [(0, [], ["a"], [], ["b"]), (3, ["c"], ["a"], [], [])]), [0, 3])

    def test_places_at_an_end_are_none(self):
        sheet = [(0, [], ["a"], [], []), (2, [], ["b"], [], [])]
        self.assertEqual(placed(self.check(["a", "b"], sheet)), 1)
        self.assertEqual(self.check(["a", "c", "b"], sheet), [0, 2])

    def test_what_is_told_is_the_askers_own(self):
        page, sheet = ["a"], [(0, [], ["a"], [], [])]
        told = most(page, sheet)
        told.marks[1][1] = None
        self.assertFalse(told.shows(page, sheet))
        self.assertTrue(most(page, sheet).shows(page, sheet))

    def test_large_ones_of_like_lines(self):
        page = ["a"] * 2000
        sheet = [(4 * at, ["a"] * 9, ["a"] * 3, [], ["a"] * 9) for at in range(500)]
        told = most(page, sheet)
        # Each takes three and leaves one, the first nine lines and the last nine are around.
        self.assertEqual(placed(told.places), len(range(9, 2000 - 3 - 9 + 1, 4)))
        self.assertTrue(told.shows(page, sheet))
        insertions = [(2 * at, [], [], ["x"], []) for at in range(500)]
        self.assertEqual(placed(most(page, insertions).places), 500)
        self.assertEqual(placed(most(page[:99], insertions).places), 100)


if __name__ == "__main__":
    unittest.main()
