"""Point 8: the change of the fewest lines from one page to another, and the heights that show it."""

import copy
import random
import unittest

from patchlay.answers import Made
from patchlay.making import made
from small import changes, is_own, is_valid, pages, slow_done, slow_heights


def lines_in(change):
    return sum(len(takes) + len(puts) for _, takes, puts in change)


class Making(unittest.TestCase):
    def check(self, old, new):
        before = copy.deepcopy((old, new))
        told = made(old, new)
        self.assertEqual((old, new), before)
        self.assertIs(type(told), Made)
        self.assertTrue(is_valid(told.change))
        self.assertEqual(slow_done(old, told.change), new)
        self.assertEqual(lines_in(told.change), slow_heights(old, new)[-1][-1])
        self.assertTrue(told.shows(old, new))
        self.holds(told.heights, old, new, lines_in(told.change))
        self.assertTrue(is_own([told.change, told.heights], old, new))
        return told

    def holds(self, heights, old, new, last):
        """Assert that the heights are as the document tells, not as `shows` does."""
        self.assertEqual([len(row) for row in heights], [len(new) + 1] * (len(old) + 1))
        self.assertTrue(all(type(row) is list for row in heights))
        self.assertTrue(all(type(height) is int for row in heights for height in row))
        self.assertEqual((heights[0][0], heights[-1][-1]), (0, last))
        for i, row in enumerate(heights):
            for j, height in enumerate(row):
                if i:
                    self.assertLessEqual(height, heights[i - 1][j] + 1)
                if j:
                    self.assertLessEqual(height, row[j - 1] + 1)
                if i and j and old[i - 1] == new[j - 1]:
                    self.assertLessEqual(height, heights[i - 1][j - 1])

    def test_all_small_pages(self):
        for old in pages("ab", 4):
            for new in pages("ab", 4):
                self.check(old, new)

    def test_no_change_of_all_has_fewer_lines(self):
        own = pages("ab", 3)
        puts = pages("ab", 3)
        for old in own:
            fewest = {}
            for change in changes(old, puts[:7]):
                to = tuple(slow_done(old, change))
                fewest[to] = min(fewest.get(to, 99), lines_in(change))
            for new in own:
                if tuple(new) in fewest:
                    self.assertEqual(lines_in(made(old, new).change), fewest[tuple(new)])

    def test_many_larger_pages(self):
        chance = random.Random(11)
        for _ in range(300):
            signs = chance.choice(["ab", "abc", "abcdefgh"])
            self.check(*[[chance.choice(signs) for _ in range(chance.randrange(41))] for _ in range(2)])

    def test_of_a_page_and_itself_nothing_is_changed(self):
        for page in pages("ab", 4) + [["a"] * 40, list("abcdefghij") * 4]:
            self.assertEqual(self.check(page, list(page)).change, [])
            self.assertEqual(made(page, page).change, [])

    def test_empty_pages(self):
        told = self.check([], [])
        self.assertEqual((told.change, told.heights), ([], [[0]]))
        self.assertEqual(self.check([], ["a", "b"]).change, [(0, [], ["a", "b"])])
        self.assertEqual(self.check(["a", "b"], []).change, [(0, ["a", "b"], [])])

    def test_plain_ones(self):
        old = ["one", "two", "three", "four"]
        self.assertEqual(self.check(old, ["one", "2", "three", "four"]).change, [(1, ["two"], ["2"])])
        self.assertEqual(self.check(old, ["zero"] + old).change, [(0, [], ["zero"])])
        self.assertEqual(self.check(old, old + ["five"]).change, [(4, [], ["five"])])
        self.assertEqual(self.check(old, ["one", "three"]).change, [(1, ["two"], []), (3, ["four"], [])])

    def test_nothing_in_common(self):
        self.assertEqual(self.check(["a", "b"], ["c"]).change, [(0, ["a", "b"], ["c"])])

    def test_like_lines_so_that_several_shortest_changes_are_to_be_had(self):
        self.assertEqual(lines_in(self.check(["a"] * 5, ["a"] * 3).change), 2)
        self.assertEqual(lines_in(self.check(["a", "b"] * 4, ["b", "a"] * 4).change), 2)
        self.assertEqual(lines_in(self.check(["a", "b"], ["b", "a"]).change), 2)

    def test_taking_the_nearest_like_line_each_time_is_not_the_fewest(self):
        self.assertEqual(lines_in(self.check(list("abcd"), list("dabc")).change), 2)
        self.assertEqual(lines_in(self.check(list("xaxbxc"), list("abcx")).change), 4)

    def test_pages_of_40_lines(self):
        self.check(["a"] * 40, ["b"] * 40)
        self.check(["a"] * 40, [])
        self.check([], ["a"] * 40)
        self.check(["a", "b"] * 20, ["b", "c"] * 20)

    def test_what_is_told_is_the_askers_own(self):
        old, new = ["a", "b"], ["a", "c"]
        told = made(old, new)
        told.change[0][2].append("q")
        told.heights[1][1] = 9
        self.assertFalse(told.shows(old, new))
        self.assertEqual((old, new), (["a", "b"], ["a", "c"]))
        again = made(old, new)
        old.append("q")
        self.assertEqual(again.change, [(1, ["b"], ["c"])])
        self.assertFalse(again.shows(old, new))


if __name__ == "__main__":
    unittest.main()
