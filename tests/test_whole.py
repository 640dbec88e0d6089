"""The whole program: changes made, told as sheets, written, read, laid, done, merged, taken back."""

import copy
import random
import unittest

from patchlay.answers import Both, Laid, Made, Most
from patchlay.bench import Bench
from patchlay.changes import done, fits, turned
from patchlay.making import made
from patchlay.pairs import behind, beside, exchanged, merged
from patchlay.sheets import around, laid, least_around, most
from patchlay.texts import read, written
from small import at_level, is_own, pages, slow_fit


def some_page(chance, signs, most_lines):
    return [chance.choice(signs) for _ in range(chance.randrange(most_lines + 1))]


def own_lines(many):
    """A page of which no line is like another one."""
    return ["line " + str(number) for number in range(many)]


def some_change(chance, page, mark):
    """A change by chance that fits the page; what it puts is like no line of it."""
    change = []
    place = chance.randrange(6)
    while place <= len(page):
        takes = page[place:place + chance.randrange(3)]
        puts = [mark + str(chance.randrange(3)) for _ in range(chance.randrange(3))]
        if takes or puts:
            change.append((place, takes, puts))
        place += len(takes) + chance.randrange(1, 12)
    return change


class ThereAndBack(unittest.TestCase):
    def check(self, old, new):
        change = made(old, new).change
        self.assertTrue(fits(old, change))
        self.assertEqual(done(old, change), new)
        self.assertEqual(done(new, turned(change)), old)
        for many in range(10):
            sheet = around(old, change, many)
            text = written(sheet)
            self.assertEqual(read(text), sheet)
            told = laid(old, read(text))
            self.assertEqual(told.change, change)
            self.assertEqual(told.spots, [(piece[0], 0) for piece in change])
            self.assertEqual(told.lacking, [])
            self.assertNotIn(None, most(old, sheet).places)

    def test_all_small_pages(self):
        for old in pages("ab", 3):
            for new in pages("ab", 3):
                self.check(old, new)

    def test_larger_pages(self):
        chance = random.Random(18)
        for signs in ("a", "ab", "abcd", "abcdefghijkl"):
            for _ in range(12):
                self.check(some_page(chance, signs, 40), some_page(chance, signs, 40))

    def test_the_least_lines_around_tell_each_piece_apart(self):
        chance = random.Random(19)
        for _ in range(60):
            old, new = some_page(chance, "abc", 30), some_page(chance, "abc", 30)
            change = made(old, new).change
            for at, many in enumerate(least_around(old, change)):
                piece = around(old, change, 9 if many is None else many)[at]
                fitting = [place for place in range(len(old) + 1) if slow_fit(old, piece, place)]
                self.assertEqual(fitting == [change[at][0]], many is not None)

    def test_a_bench_from_page_to_page(self):
        chance = random.Random(20)
        told = [some_page(chance, "abc", 20) for _ in range(12)]
        bench = Bench(told[0])
        whole = []
        for old, new in zip(told, told[1:]):
            change = made(old, new).change
            self.assertEqual(bench.do(change), new)
            whole = behind(whole, change)
            self.assertEqual(done(told[0], whole), new)
        for old in reversed(told[:-1]):
            self.assertEqual(bench.undo(), old)
        self.assertEqual(bench.whence(), [None] * len(told[0]))
        for new in told[1:]:
            self.assertEqual(bench.redo(), new)


class MovedOn(unittest.TestCase):
    """A sheet laid on the page moved on by another change leads where both side by side lead."""

    def check(self, page, one, other, many, level):
        both = beside(one, other)
        if not isinstance(both, Both) or len(both.one) < len(one):
            return False
        moved = done(page, other)
        sheet = around(page, one, many)
        told = laid(moved, read(written(sheet)), level)
        if not all(self.fits_there_alone(moved, piece, spot) for piece, spot in zip(sheet, told.spots)):
            return False
        self.assertEqual(told.change, both.one)
        self.assertEqual(done(moved, told.change), done(page, merged(one, other)))
        self.assertEqual(done(moved, told.change), done(done(page, one), both.other))
        bench = Bench(page)
        bench.do(other)
        self.assertEqual(bench.lay(sheet, level), done(page, merged(one, other)))
        self.assertEqual(exchanged(other, told.change)[0], one)
        return bool(one and other)

    def fits_there_alone(self, page, piece, spot):
        """Whether the piece is laid, and fits no other place at its level."""
        if spot is None:
            return False
        fewer = at_level(piece, spot[1])
        return [place for place in range(len(page) + 1) if slow_fit(page, fewer, place)] == [spot[0]]

    def test_pages_of_lines_that_are_all_others(self):
        chance = random.Random(21)
        held = 0
        for _ in range(1500):
            page = own_lines(chance.randrange(40))
            one = some_change(chance, page, "one ")
            other = some_change(chance, page, "other ")
            if chance.randrange(2):
                one, other = one[:chance.randrange(3)], other[chance.randrange(3):]
            held += self.check(page, one, other, chance.randrange(10), chance.randrange(10))
        self.assertGreater(held, 100)

    def test_a_plain_one(self):
        page = list("abcdefgh")
        self.assertTrue(self.check(page, [(5, ["f"], ["x"])], [(0, [], ["y", "y"]), (2, ["c"], [])], 2, 0))
        self.assertTrue(self.check(page, [(0, ["a"], []), (7, [], ["x"])], [(3, ["d"], ["y"])], 1, 0))


class WhatIsHandedInAndTold(unittest.TestCase):
    """Point 1: nothing handed in is kept or changed, what is told is new."""

    def test_all_that_is_told_is_new(self):
        page = list("abcab")
        new = list("abxab")
        change = [(2, ["c"], ["x"]), (5, [], ["y"])]
        other = [(0, [], ["z"])]
        sheet = [(2, ["b"], ["c"], ["x"], ["a"]), (4, [], ["q"], [], [])]
        text = written(sheet)
        given = (page, new, change, other, sheet)
        before = copy.deepcopy(given)
        for call in (
            lambda: done(page, change), lambda: turned(change), lambda: behind(other, change),
            lambda: beside(change, other).one, lambda: beside(change, other).other, lambda: merged(change, other),
            lambda: exchanged(change, other), lambda: made(page, new).change, lambda: made(page, new).heights,
            lambda: around(page, change), lambda: laid(page, sheet).change, lambda: laid(page, sheet).spots,
            lambda: laid(page, sheet).lacking, lambda: least_around(page, change), lambda: most(page, sheet).places,
            lambda: most(page, sheet).marks, lambda: read(text), lambda: Bench(page).page(),
            lambda: Bench(page).whence(), lambda: Bench(page).do(change), lambda: Bench(page).lay(sheet[:1]),
        ):
            first, second = call(), call()
            self.assertEqual(first, second)
            self.assertTrue(is_own([first, second], *given))
            self.assertEqual(given, before)

    def test_answers_copy_what_they_are_made_of(self):
        lines = ["a"]
        change = [(0, lines, [])]
        rows = [[0, None]]
        for answer in (Made(change, rows), Laid([None], change, rows), Most([None], rows), Both(change, change)):
            told = copy.deepcopy(vars(answer))
            lines.append("q")
            rows[0].append("q")
            self.assertEqual(vars(answer), told)
            lines.pop()
            rows[0].pop()


if __name__ == "__main__":
    unittest.main()
