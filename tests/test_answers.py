"""The classes of patchlay/answers.py, and points 8 and 13 as far as `shows` tells them."""

import copy
import random
import unittest

from patchlay.answers import Answer, Both, Laid, Made, Most, Quarrel
from small import changes, pages, placed, share_lists, slow_done, slow_fit, slow_heights, slow_most


class Fields(unittest.TestCase):
    def test_names_and_bases(self):
        for made in (Both([], []), Quarrel([]), Made([], []), Laid([], [], []), Most([], [])):
            self.assertEqual(type(made).__bases__, (Answer,))
            self.assertEqual(type(made).__module__, "patchlay.answers")
        self.assertIn("shows", vars(Made))
        self.assertIn("shows", vars(Most))

    def test_fields_are_copies_lists_within_lists_too(self):
        lines = ["a"]
        change = [(0, lines, lines), (3, lines, [])]
        row = [0, None]
        given = {
            Both: ("other", change, "one", change),
            Quarrel: ("pairs", [(0, 1), (2, 3)]),
            Made: ("change", change, "heights", [row, row]),
            Laid: ("spots", [(0, 1), None], "change", change, "lacking", [[(0, 1)], []]),
            Most: ("places", [1, None], "marks", [row, row, [row]]),
        }
        for kind, told in given.items():
            handed = told[1::2]
            before = copy.deepcopy(handed)
            answer = kind(*handed)
            fields = [getattr(answer, name) for name in told[::2]]
            self.assertEqual(tuple(fields), handed)
            self.assertFalse(share_lists(*fields))
            for field in fields:
                self.assertFalse(share_lists(field, lines) or share_lists(field, row))
                field.append("more")
            self.assertEqual(handed, before)

    def test_keywords(self):
        both = Both(other=[(0, ["a"], [])], one=[])
        self.assertEqual((both.other, both.one), ([(0, ["a"], [])], []))
        laid = Laid(spots=[None], change=[], lacking=[[(0, 0)]])
        self.assertEqual((laid.spots, laid.change, laid.lacking), ([None], [], [[(0, 0)]]))
        self.assertTrue(Made(change=[], heights=[[0]]).shows(old=[], new=[]))
        self.assertTrue(Most(places=[], marks=[[-1, None]]).shows(page=[], sheet=[]))


OLD = ["a", "b", "c"]
NEW = ["b", "x", "c", "d"]
BEST = [(0, ["a"], []), (2, [], ["x"]), (3, [], ["d"])]


class MadeShows(unittest.TestCase):
    def setUp(self):
        self.made = Made(BEST, slow_heights(OLD, NEW))

    def shows(self):
        before = copy.deepcopy((self.made.change, self.made.heights))
        told = self.made.shows(OLD, NEW)
        self.assertIs(type(told), bool)
        self.assertEqual((self.made.change, self.made.heights), before)
        return told

    def test_a_right_one(self):
        self.assertTrue(self.shows())
        self.assertFalse(self.made.shows(NEW, OLD))
        self.assertFalse(self.made.shows(OLD, OLD))
        self.assertFalse(self.made.shows([], []))

    def test_empty_pages(self):
        self.assertIs(Made([], [[0]]).shows([], []), True)
        self.assertTrue(Made([(0, [], ["a"])], [[0, 1]]).shows([], ["a"]))
        self.assertTrue(Made([(0, ["a"], [])], [[0], [1]]).shows(["a"], []))
        self.assertFalse(Made([], [[1]]).shows([], []))
        self.assertFalse(Made([], []).shows([], []))
        self.assertFalse(Made([], [[]]).shows([], []))
        self.assertFalse(Made([], [[0, 1]]).shows([], []))
        self.assertFalse(Made([], [[0], [0]]).shows([], []))

    def test_it_goes_by_the_fields_as_they_stand_then(self):
        self.made.heights[1][1] += 1
        self.assertFalse(self.shows())
        self.made.heights[1][1] -= 1
        self.assertTrue(self.shows())
        self.made.change = []
        self.assertFalse(self.shows())
        self.made.change = list(BEST)
        self.assertTrue(self.shows())
        self.made.change[0][1][0] = "q"
        self.assertFalse(self.shows())

    def test_fields_that_are_no_change(self):
        wrong = [
            [], BEST[1:], BEST[::-1], BEST + [(3, [], ["d"])], BEST + [(9, [], ["d"])],
            [(0, ["a"], []), (1, [], []), (2, [], ["x"]), (3, [], ["d"])],
            [(-3, ["a"], []), (2, [], ["x"]), (3, [], ["d"])],
            [(False, ["a"], []), (2, [], ["x"]), (3, [], ["d"])],
            [(0, ["a"], []), (2, [], ["x"]), (None, [], ["d"])],
            [(0, ["a"], []), (2, [], ["x"]), (4, [], ["d"])],
            [(0, ["a"], []), (2, [], ["x"]), (3, [], ["d\n"])],
            [(0, ["b"], []), (2, [], ["x"]), (3, [], ["d"])],
            # As many lines, but pieces that touch.
            [(0, ["a"], []), (2, [], ["x"]), (3, [], []), (3, [], ["d"])],
            [(0, ["a"], []), None, (3, [], ["d"])], [None], None, (), True, "abc", tuple(BEST),
            [["a"], [], []], [list(piece) for piece in BEST], [piece + (0,) for piece in BEST],
            [(0, ("a",), []), (2, [], ["x"]), (3, [], ["d"])],
        ]
        for change in wrong:
            self.made.change = change
            self.assertFalse(self.shows(), change)

    def test_a_change_of_more_lines(self):
        self.made.change = [(0, ["a", "b", "c"], ["b", "x", "c", "d"])]
        self.assertEqual(slow_done(OLD, self.made.change), NEW)
        self.assertFalse(self.shows())
        self.made.heights[-1][-1] = 7
        self.assertFalse(self.shows())

    def test_a_change_of_as_many_lines_to_another_page(self):
        self.made.change = [(0, ["a"], []), (2, [], ["x"]), (3, [], ["e"])]
        self.assertFalse(self.shows())

    def test_fields_that_are_no_heights(self):
        right = self.made.heights
        wrong = [None, [], [[]], [0], [None] * 4, right[1:], right + [right[-1]], right[:3] + [right[3][:4]],
                 right[:3] + [right[3] + [0]], [row[:4] for row in right], tuple(right), [tuple(row) for row in right],
                 [[str(height) for height in row] for row in right], [[[height] for height in row] for row in right],
                 [[None if height == 2 else height for height in row] for row in right],
                 [[bool(height) if height < 2 else height for height in row] for row in right]]
        for heights in wrong:
            self.made.heights = heights
            self.assertFalse(self.shows(), heights)

    def test_each_height_is_held_by_those_ahead(self):
        for i, row in enumerate(slow_heights(OLD, NEW)):
            for j in range(len(row)):
                if (i, j) != (len(OLD), len(NEW)):
                    # These are the greatest heights, so none of them may be more.
                    self.made = Made(BEST, slow_heights(OLD, NEW))
                    self.made.heights[i][j] += 1
                    self.assertFalse(self.shows(), (i, j))

    def test_heights_may_be_lower_where_nothing_asks_for_more(self):
        self.made = Made([(0, ["a"], ["b"])], [[0, 1], [1, 2]])
        self.assertTrue(self.made.shows(["a"], ["b"]))
        self.made.heights = [[0, 1], [2, 2]]
        self.assertFalse(self.made.shows(["a"], ["b"]))
        self.made.heights = [[0, 2], [1, 2]]
        self.assertFalse(self.made.shows(["a"], ["b"]))
        self.made.heights = [[0, 0], [1, 2]]
        self.assertFalse(self.made.shows(["a"], ["b"]))
        # Below 0, too: only those ahead and the last one hold a height.
        self.made = Made([(0, ["a"], ["b", "b"])], [[0, 1, 2], [-9, 2, 3]])
        self.assertFalse(self.made.shows(["a"], ["b", "b"]))
        self.made = Made([(0, [], ["b"])], [[0, -4, -3], [1, -3, 1]])
        self.assertFalse(self.made.shows(["a"], ["b", "a"]))
        self.made = Made([(0, [], ["b"])], [[0, 1, 2], [-9, -8, 1]])
        self.assertFalse(self.made.shows(["a"], ["b", "a"]))
        self.made = Made([], [[0, -1, 0], [-2, 0, -5], [1, 1, 0]])
        self.assertFalse(self.made.shows(["a", "b"], ["a", "b"]))
        self.assertTrue(Made([], [[0, -1, 0], [1, 0, 1], [1, 1, 0]]).shows(["a", "b"], ["a", "b"]))
        self.assertTrue(Made([(0, ["a"], [])], [[0], [1]]).shows(["a"], []))
        self.assertTrue(Made([(0, ["a"], ["b"])], [[0, 1], [1, 2]]).shows(["a"], ["b"]))

    def test_each_rule_by_itself(self):
        pages_of = (["a"], ["b"])
        change = [(0, ["a"], ["b"])]
        self.assertTrue(Made(change, [[0, 1], [1, 2]]).shows(*pages_of))
        # The first of all.
        self.assertFalse(Made(change, [[1, 1], [1, 2]]).shows(*pages_of))
        self.assertFalse(Made(change, [[-1, 1], [1, 2]]).shows(*pages_of))
        # The last of all.
        self.assertFalse(Made(change, [[0, 1], [1, 1]]).shows(*pages_of))
        # Lines that are alike: no more than ahead of both.
        self.assertTrue(Made([], [[0, 1], [1, 0]]).shows(["a"], ["a"]))
        self.assertFalse(Made([(0, ["a"], ["a"])], [[0, 1], [1, 2]]).shows(["a"], ["a"]))

    def test_all_small_pages(self):
        for old in pages("ab", 3):
            for new in pages("ab", 3):
                heights = slow_heights(old, new)
                for change in changes(old, [[], ["a"], ["b"], ["b", "a"]]):
                    many = sum(len(takes) + len(puts) for _, takes, puts in change)
                    right = many == heights[-1][-1] and slow_done(old, change) == new
                    self.assertEqual(Made(change, heights).shows(old, new), right)

    def test_whatever_it_says_yes_to_has_the_fewest_lines(self):
        chance = random.Random(8)
        for _ in range(3000):
            old = [chance.choice("ab") for _ in range(chance.randrange(3))]
            new = [chance.choice("ab") for _ in range(chance.randrange(3))]
            heights = [[chance.randrange(-1, 4) for _ in range(len(new) + 1)] for _ in range(len(old) + 1)]
            heights[0][0] = 0
            change = chance.choice([change for change in changes(old, [[], ["a"], ["b"], ["a", "b"]])])
            if Made(change, heights).shows(old, new):
                self.assertEqual(slow_done(old, change), new)
                self.assertEqual(heights[-1][-1], slow_heights(old, new)[-1][-1])

    def test_what_is_told_may_be_longer_than_what_is_handed_in(self):
        page = [str(number) for number in range(600)]
        self.assertTrue(Made([(0, page, [])], [[number] for number in range(601)]).shows(page, []))
        self.assertTrue(Made([(0, [], page)], [list(range(601))]).shows([], page))

    def test_large_pages(self):
        old = [str(number) for number in range(400)]
        heights = [[abs(i - j) for j in range(401)] for i in range(401)]
        self.assertTrue(Made([], heights).shows(old, list(old)))
        heights[200][200] = 1
        self.assertFalse(Made([], heights).shows(old, list(old)))


PAGE = ["a", "b", "a", "b", "c"]
SHEET = [(0, ["a"], ["b"], [], ["a"]), (2, [], [], ["x"], ["b"]), (4, ["b"], [], ["y"], ["c"])]


class MostShows(unittest.TestCase):
    def setUp(self):
        self.most = Most([1, 3, None], [[-1, None, None, None], [-1, 2, None, None], [-1, 1, 3, None],
                                        [-1, 1, 3, None]])

    def shows(self, page=None, sheet=None):
        before = copy.deepcopy((self.most.places, self.most.marks))
        told = self.most.shows(PAGE if page is None else page, SHEET if sheet is None else sheet)
        self.assertIs(type(told), bool)
        self.assertEqual((self.most.places, self.most.marks), before)
        return told

    def test_a_right_one(self):
        places, marks = slow_most(PAGE, SHEET)
        self.most = Most(places, marks)
        self.assertTrue(self.shows())
        self.assertEqual(placed(places), 3 - 1 + (places[2] is not None and placed(places) == 3))

    def test_an_empty_sheet_and_an_empty_page(self):
        self.most = Most([], [[-1, None]])
        self.assertTrue(self.shows([], []))
        self.assertTrue(self.shows(["a"], []))
        for marks in ([[0, None]], [[None, None]], [[-1, -1]], [[-1, 0]], [[-1]], [[]], [], [[-1, None, None]],
                      [[-1, None], [-1, None]], None, [-1, None], ([-1, None],), [(-1, None)]):
            self.assertFalse(Most([], marks).shows([], []), marks)
        for places in ([None], [0], None, (), True):
            self.assertFalse(Most(places, [[-1, None]]).shows([], []), places)
        insertion = [(7, [], [], ["x"], [])]
        self.assertTrue(Most([0], [[-1, None, None], [-1, 0, None]]).shows([], insertion))
        self.assertFalse(Most([1], [[-1, None, None], [-1, 0, None]]).shows([], insertion))
        self.assertFalse(Most([None], [[-1, None], [-1, None]]).shows([], insertion))
        deletion = [(0, [], ["x"], [], [])]
        self.assertTrue(Most([None], [[-1, None], [-1, None]]).shows([], deletion))
        self.assertFalse(Most([0], [[-1, None, None], [-1, 1, None]]).shows([], deletion))

    def test_all_small_ones(self):
        parts = [(takes, puts) for takes in ([], ["a"], ["a", "b"]) for puts in ([], ["x"]) if takes or puts]
        around = [[], ["a"], ["b"]]
        pieces = [(ahead, takes, puts, after) for takes, puts in parts for ahead in around for after in around]
        chance = random.Random(9)
        for page in pages("ab", 4):
            for many in range(4):
                sheet = [(9 * at,) + chance.choice(pieces) for at in range(many)]
                places, marks = slow_most(page, sheet)
                self.assertTrue(Most(places, marks).shows(page, sheet))
                self.fewer(places, page, sheet)
                self.lifted(places, marks, page, sheet)

    def fewer(self, places, page, sheet):
        """Assert that no marks show that there can't be more where there can."""
        for at, place in enumerate(places):
            if place is not None:
                few = places[:at] + [None] + places[at + 1:]
                marks = [row[:-1] for row in slow_most(page, sheet)[1]]
                self.assertFalse(Most(few, marks).shows(page, sheet))
                cut = [row[:-1] + [None] for row in marks]
                self.assertFalse(Most(few, cut).shows(page, sheet))

    def lifted(self, places, marks, page, sheet):
        """Assert that no mark can be greater, or None: they are the greatest ones."""
        for row in range(1, len(marks)):
            for count, mark in enumerate(marks[row]):
                if mark is not None:
                    for worse in (mark + 1, None):
                        wrong = copy.deepcopy(marks)
                        wrong[row][count] = worse
                        self.assertFalse(Most(places, wrong).shows(page, sheet))

    def test_places(self):
        page = ["a", "a", "a", "a"]
        sheet = [(0, [], ["a"], [], []), (2, [], ["a"], [], []), (4, [], ["a"], ["b"], [])]
        marks = slow_most(page, sheet)[1]
        for places, right in (([0, 2, None], True), ([0, 3, None], True), ([None, 1, 3], True), ([0, None, 2], True),
                              ([1, 3, None], True), ([0, 1, None], False), ([2, 0, None], False),
                              ([0, 4, None], False), ([-4, 2, None], False), ([0, 10 ** 20, None], False),
                              ([False, 2, None], False), ([0, True, None], False), ([0, "2", None], False),
                              ([0, [2], None], False), ([0, (2,), None], False), ([0, 2], False),
                              ([0, 2, None, None], False), ([0, None, None], False), ([0, 2, 4], False)):
            self.assertEqual(Most(places, marks).shows(page, sheet), right, places)

    def test_a_place_must_have_all_lines_around(self):
        page = ["a", "b", "c"]
        marks = [[-1, None, None], [-1, 2, None]]
        self.assertTrue(Most([1], marks).shows(page, [(1, ["a"], ["b"], [], ["c"])]))
        for piece in ((1, ["c"], ["b"], [], ["c"]), (1, ["a"], ["a"], [], ["c"]), (1, ["a"], ["b"], [], ["a"]),
                      (1, ["c", "a"], ["b"], [], ["c"]), (1, ["a"], ["b"], [], ["c", "a"]),
                      (1, ["a"], ["b", "c"], [], ["c"])):
            self.assertFalse(Most([1], marks).shows(page, [piece]), piece)
            self.assertTrue(Most([None], [[-1, None], [-1, None]]).shows(page, [piece]), piece)

    def test_lines_around_of_two_pieces_may_be_the_same_ones(self):
        page = ["x", "a", "y"]
        sheet = [(0, [], ["x"], [], ["a"]), (2, ["a"], ["y"], [], [])]
        self.assertTrue(Most([0, 2], slow_most(page, sheet)[1]).shows(page, sheet))

    def test_it_goes_by_the_fields_as_they_stand_then(self):
        places, marks = slow_most(PAGE, SHEET)
        self.most = Most(places, marks)
        self.most.marks[-1][-1] = 9
        self.assertFalse(self.shows())
        self.most.marks[-1][-1] = None
        self.assertTrue(self.shows())
        self.most.places = [None, None, None]
        self.assertFalse(self.shows())

    def test_fields_that_are_no_marks(self):
        places, right = slow_most(PAGE, SHEET)
        wrong = [None, [], [None] * 4, [-1] * 4, right[1:], right + [right[-1]], [row[1:] for row in right],
                 [row + [None] for row in right], tuple(right), [tuple(row) for row in right],
                 [[[mark] for mark in row] for row in right], [[str(mark) for mark in row] for row in right],
                 [[mark if mark != 1 else True for mark in row] for row in right], True, "marks"]
        for marks in wrong:
            if marks != right or any(mark is True for row in marks for mark in row):
                self.assertFalse(Most(places, marks).shows(PAGE, SHEET), marks)

    def test_each_rule_by_itself(self):
        page = ["a", "b"]
        sheet = [(0, [], ["a"], [], [])]
        self.assertTrue(Most([0], [[-1, None, None], [-1, 1, None]]).shows(page, sheet))
        for marks in (
            # The first is -1 for 0.
            [[0, None, None], [-1, 1, None]], [[-2, None, None], [-2, 1, None]], [[None, None, None], [-1, 1, None]],
            # The next piece's mark for the same count is a number, no greater.
            [[-1, None, None], [None, 1, None]], [[-1, None, None], [0, 1, None]],
            # Its mark for one more is a number, no greater than the end.
            [[-1, None, None], [-1, None, None]], [[-1, None, None], [-1, 2, None]],
            # The last of all is None.
            [[-1, None, None], [-1, 1, 1]], [[-1, None, 5], [-1, 1, 5]],
        ):
            self.assertFalse(Most([0], marks).shows(page, sheet), marks)
        self.assertFalse(Most([True], [[-1, None, None], [-1, True, None]]).shows(["b", "a"], sheet))

    def test_marks_may_be_lower_where_nothing_asks_for_more(self):
        sheet = [(0, [], ["a"], [], [])]
        self.assertTrue(Most([0], [[-1, None, None], [-1, 0, None]]).shows(["a", "b"], sheet))
        self.assertTrue(Most([0], [[-1, None, None], [-7, -9, None]]).shows(["a", "b"], sheet))
        # A number for a count that can't be asks for more in turn.
        self.assertTrue(Most([0], [[-1, 3, None], [-1, 1, None]]).shows(["a", "b"], sheet))
        self.assertFalse(Most([0], [[-1, -5, None], [-1, -5, None]]).shows(["a", "b"], sheet))
        self.assertFalse(Most([0], [[-1, 0, None], [-1, 0, None]]).shows(["b", "a"], sheet))

    def test_the_least_place_is_above_the_mark(self):
        page = ["a", "a"]
        sheet = [(0, [], ["a"], [], []), (2, [], ["a"], [], [])]
        marks = [[-1, None, None], [-1, 1, None], [-1, 1, None]]
        self.assertTrue(Most([0, None], marks).shows(page, sheet))
        self.assertTrue(Most([None, 1], marks).shows(page, sheet))
        self.assertFalse(Most([0, None], marks).shows(page + ["a"], sheet))
        more = [[-1, None, None, None], [-1, 1, None, None], [-1, 1, 3, None]]
        self.assertTrue(Most([0, 2], more).shows(page + ["a"], sheet))

    def test_whatever_it_says_yes_to_has_the_most_pieces(self):
        chance = random.Random(10)
        said = 0
        for _ in range(20000):
            page = [chance.choice("ab") for _ in range(chance.randrange(4))]
            sheet = [(9 * at, [], [chance.choice("ab")], [], []) for at in range(chance.randrange(3))]
            best = slow_most(page, sheet)[0]
            places = [chance.choice([None, 0, 1, 2]) for _ in sheet]
            marks = [[chance.choice([-1, None, None, 1, 3]) for _ in range(placed(places) + 2)]
                     for _ in range(len(sheet) + 1)]
            marks[0][0] = -1
            marks[-1][-1] = None
            if Most(places, marks).shows(page, sheet):
                said += 1
                self.assertEqual(placed(places), placed(best))
                for place, piece in zip(places, sheet):
                    self.assertTrue(place is None or slow_fit(page, piece, place))
        self.assertGreater(said, 0)

    def test_large_ones_of_like_lines(self):
        page = ["a"] * 2000
        sheet = [(4 * at, ["a"] * 9, ["a"] * 3, [], ["a"] * 9) for at in range(500)]
        # Each takes three and leaves one, the first nine lines and the last nine are around.
        spots = list(range(9, 2000 - 3 - 9 + 1, 4))
        places = spots + [None] * (500 - len(spots))
        marks = []
        for many in range(501):
            ends = [-1] + [spot + 3 for spot in spots[:many]]
            marks.append(ends + [None] * (len(spots) + 2 - len(ends)))
        self.assertTrue(Most(places, marks).shows(page, sheet))
        self.assertFalse(Most(places, marks).shows(page[:-1], sheet[1:]))
        marks[300][200] += 1
        self.assertFalse(Most(places, marks).shows(page, sheet))


if __name__ == "__main__":
    unittest.main()
