"""Point 15: a bench, its deeds, and whence each line came."""

import copy
import random
import unittest

from patchlay.bench import Bench
from patchlay.errors import BadChange, BadNumber, BadPage, BadSheet, NoDeed, NotFitting, PatchError, TooFew
from patchlay.sheets import around
from small import changes, is_own, slow_spots


class SlowBench:
    """A bench that keeps the page and where its lines came from as they were at each time."""

    def __init__(self, page):
        self.states = [(list(page), [None] * len(page))]
        self.now = 0

    def do(self, change):
        page, whence = copy.deepcopy(self.states[self.now])
        for place, takes, puts in reversed(change):
            page[place:place + len(takes)] = puts
            whence[place:place + len(takes)] = [self.now] * len(puts)
        self.states[self.now + 1:] = [(page, whence)]
        self.now += 1


def state(bench):
    return bench.page(), bench.whence(), bench.times()


class Deeds(unittest.TestCase):
    def test_methods_stand_in_the_class(self):
        for name in ("page", "whence", "times", "do", "lay", "undo", "redo"):
            self.assertIn(name, vars(Bench))

    def test_a_new_bench(self):
        self.assertEqual(state(Bench()), ([], [], 0))
        self.assertEqual(state(Bench(None)), ([], [], 0))
        self.assertEqual(state(Bench(page=[])), ([], [], 0))
        self.assertEqual(state(Bench(["a", "b"])), (["a", "b"], [None, None], 0))
        for page in (False, True, 0, "", (), ("a",), [1], ["\n"], {}, ["a"] * 2001):
            with self.assertRaises(BadPage):
                Bench(page)
        self.assertEqual(len(Bench(["a"] * 2000).whence()), 2000)

    def test_lines_that_are_put_are_of_the_deed(self):
        bench = Bench(["a", "b", "c"])
        self.assertEqual(bench.do([(1, ["b"], ["x", "y"])]), ["a", "x", "y", "c"])
        self.assertEqual(state(bench), (["a", "x", "y", "c"], [None, 0, 0, None], 1))
        self.assertEqual(bench.do([(0, [], ["z"]), (2, ["y"], [])]), ["z", "a", "x", "c"])
        self.assertEqual(bench.whence(), [1, None, 0, None])

    def test_a_line_that_two_deeds_put_in_turn(self):
        bench = Bench(["a"])
        bench.do([(0, ["a"], ["b"])])
        bench.do([(0, ["b"], ["c"])])
        self.assertEqual(state(bench), (["c"], [1], 2))
        self.assertEqual(bench.undo(), ["b"])
        self.assertEqual(bench.whence(), [0])
        self.assertEqual(bench.undo(), ["a"])
        self.assertEqual(bench.whence(), [None])
        bench.redo()
        self.assertEqual(bench.redo(), ["c"])
        self.assertEqual(bench.whence(), [1])

    def test_a_line_taken_and_put_alike_is_of_the_deed(self):
        bench = Bench(["a", "a"])
        bench.do([(0, ["a"], ["a"])])
        self.assertEqual(bench.whence(), [0, None])
        bench.do([(1, ["a"], ["a", "a"])])
        self.assertEqual(bench.whence(), [0, 1, 1])

    def test_taken_back_and_done_again(self):
        bench = Bench(["a", "b"])
        bench.do([(0, ["a"], [])])
        bench.do([(0, [], ["x"])])
        self.assertEqual(bench.undo(), ["b"])
        self.assertEqual(state(bench), (["b"], [None], 1))
        self.assertEqual(bench.undo(), ["a", "b"])
        self.assertEqual(state(bench), (["a", "b"], [None, None], 0))
        self.assertEqual(bench.redo(), ["b"])
        self.assertEqual(bench.redo(), ["x", "b"])
        self.assertEqual(state(bench), (["x", "b"], [1, None], 2))

    def test_nothing_to_take_back_or_to_do_again(self):
        bench = Bench(["a"])
        for refused in (bench.undo, bench.redo):
            with self.assertRaises(NoDeed):
                refused()
        bench.do([])
        with self.assertRaises(NoDeed):
            bench.redo()
        bench.undo()
        with self.assertRaises(NoDeed):
            bench.undo()
        self.assertEqual(bench.redo(), ["a"])
        with self.assertRaises(NoDeed):
            bench.redo()
        self.assertEqual(state(bench), (["a"], [None], 1))

    def test_a_deed_between_takes_the_others_place(self):
        bench = Bench(["a"])
        bench.do([(0, [], ["x"])])
        bench.do([(0, [], ["y"])])
        bench.undo()
        self.assertEqual(bench.do([(2, [], ["z"])]), ["x", "a", "z"])
        self.assertEqual(bench.whence(), [0, None, 1])
        with self.assertRaises(NoDeed):
            bench.redo()
        bench.undo()
        self.assertEqual(bench.redo(), ["x", "a", "z"])

    def test_a_sheet_between_takes_the_others_place(self):
        bench = Bench(["a"])
        bench.do([(0, [], ["x"])])
        bench.undo()
        bench.lay([(0, [], ["a"], ["z"], [])])
        with self.assertRaises(NoDeed):
            bench.redo()
        self.assertEqual(state(bench), (["z"], [0], 1))

    def test_empty_deeds_are_deeds(self):
        bench = Bench(["a"])
        self.assertEqual(bench.do([]), ["a"])
        self.assertEqual(bench.lay([]), ["a"])
        self.assertEqual(state(bench), (["a"], [None], 2))
        bench.do([(0, [], ["b"])])
        self.assertEqual(bench.whence(), [2, None])
        bench.undo()
        self.assertEqual(bench.undo(), ["a"])
        self.assertEqual(bench.times(), 1)


class Sheets(unittest.TestCase):
    def test_a_sheet_is_laid(self):
        bench = Bench(["q", "a", "b"])
        self.assertEqual(bench.lay([(0, [], ["a"], ["x"], ["b"])]), ["q", "x", "b"])
        self.assertEqual(state(bench), (["q", "x", "b"], [None, 0, None], 1))
        self.assertEqual(bench.undo(), ["q", "a", "b"])
        self.assertEqual(bench.redo(), ["q", "x", "b"])

    def test_the_level(self):
        bench = Bench(["q", "a", "b"])
        sheet = [(1, ["z"], ["a"], ["x"], [])]
        with self.assertRaises(TooFew):
            bench.lay(sheet)
        with self.assertRaises(TooFew):
            bench.lay(sheet, 0)
        self.assertEqual(bench.lay(sheet, level=1), ["q", "x", "b"])

    def test_too_few(self):
        bench = Bench(["a", "b", "c", "d"])
        sheet = [(0, [], ["q"], [], []), (2, [], ["c"], ["x"], []), (4, [], ["a"], [], []), (6, [], ["d"], [], [])]
        with self.assertRaises(TooFew) as caught:
            bench.lay(sheet, 9)
        self.assertEqual(caught.exception.pieces, [0, 2, 3])
        self.assertEqual(state(bench), (["a", "b", "c", "d"], [None] * 4, 0))
        with self.assertRaises(TooFew) as caught:
            Bench().lay([(0, [], ["q"], [], [])])
        self.assertEqual(caught.exception.pieces, [0])
        self.assertEqual(len(bench.lay(sheet[1:2])), 4)


class Refusals(unittest.TestCase):
    def test_a_refused_deed_changes_nothing(self):
        bench = Bench(["a", "b"])
        bench.do([(0, [], ["x"])])
        bench.do([(0, ["x"], ["y"])])
        bench.undo()
        before = state(bench)
        for error, deed in (
            (BadChange, lambda: bench.do(None)), (BadChange, lambda: bench.do([(0, [], [])])),
            (NotFitting, lambda: bench.do([(0, ["x"], ["z"]), (2, ["q"], [])])),
            (NotFitting, lambda: bench.do([(4, [], ["z"])])),
            (BadSheet, lambda: bench.lay(None)), (BadSheet, lambda: bench.lay([(0, ["x"], ["z"])])),
            (BadNumber, lambda: bench.lay([], True)), (BadNumber, lambda: bench.lay([], 10)),
            (BadNumber, lambda: bench.lay([], -1)), (BadNumber, lambda: bench.lay([], None)),
            (TooFew, lambda: bench.lay([(0, [], ["x"], [], []), (2, [], ["q"], [], [])])),
        ):
            with self.assertRaises(error) as caught:
                deed()
            self.assertIs(type(caught.exception), error)
            self.assertEqual(state(bench), before)
        # What was taken back can be done again all the same.
        self.assertEqual(bench.redo(), ["y", "a", "b"])

    def test_the_first_piece_and_line_that_do_not_fit(self):
        with self.assertRaises(NotFitting) as caught:
            Bench(["a", "b", "c"]).do([(0, ["a"], []), (2, ["c", "d"], [])])
        self.assertEqual((caught.exception.piece, caught.exception.line), (1, 1))


class Own(unittest.TestCase):
    def test_nothing_handed_in_is_kept(self):
        page = ["a", "b"]
        bench = Bench(page)
        page[0] = "q"
        change = [(0, ["a"], ["x"])]
        bench.do(change)
        change[0][1][0] = change[0][2][0] = "q"
        sheet = [(1, [], ["b"], ["y"], [])]
        bench.lay(sheet)
        sheet[0][3].append("q")
        del sheet[:]
        self.assertEqual(bench.page(), ["x", "y"])
        bench.undo()
        self.assertEqual(bench.undo(), ["a", "b"])
        bench.redo()
        self.assertEqual(bench.redo(), ["x", "y"])

    def test_what_is_told_is_the_askers_own(self):
        bench = Bench(["a"])
        told = [bench.page(), bench.whence(), bench.do([]), bench.lay([]), bench.undo(), bench.redo(), bench.page()]
        self.assertTrue(is_own(told))
        for part in told:
            part.append("q")
        self.assertEqual(state(bench), (["a"], [None], 2))
        with self.assertRaises(TooFew) as caught:
            bench.lay([(0, [], ["b"], [], [])])
        caught.exception.pieces.append("q")
        with self.assertRaises(TooFew) as caught:
            bench.lay([(0, [], ["b"], [], [])])
        self.assertEqual(caught.exception.pieces, [0])

    def test_what_was_told_stays_as_it_was(self):
        bench = Bench(["a"])
        first, whence = bench.page(), bench.whence()
        second = bench.do([(0, ["a"], ["b"])])
        bench.do([(0, ["b"], ["c", "d"])])
        bench.undo()
        self.assertEqual((first, whence, second), (["a"], [None], ["b"]))

    def test_two_benches_are_apart(self):
        one, other = Bench(), Bench()
        one.do([(0, [], ["a"])])
        self.assertEqual(state(other), ([], [], 0))
        self.assertEqual(state(Bench()), ([], [], 0))


class AgainstASlowOne(unittest.TestCase):
    def check(self, bench, slow):
        self.assertEqual(state(bench), slow.states[slow.now] + (slow.now,))

    def some_deed(self, chance, bench, slow):
        """One deed by chance, on both benches; what is told is the page then."""
        page = slow.states[slow.now][0]
        way = chance.randrange(4)
        if way == 0:
            change = chance.choice(changes(page[:3], [[], ["x"]]))
            slow.do(change)
            return bench.do(change)
        if way == 1:
            change = chance.choice(changes(page[:3], [[], ["y", "a"]]))
            sheet = around(page, change, chance.randrange(3))
            level = chance.randrange(3)
            return self.lay(bench, slow, sheet, level)
        if way == 2 and slow.now > 0:
            slow.now -= 1
            return bench.undo()
        if way == 3 and slow.now + 1 < len(slow.states):
            slow.now += 1
            return bench.redo()
        with self.assertRaises(NoDeed):
            bench.undo() if way == 2 else bench.redo()
        return bench.page()

    def lay(self, bench, slow, sheet, level):
        page = slow.states[slow.now][0]
        spots, lacking = slow_spots(page, sheet, level)
        if lacking:
            with self.assertRaises(PatchError) as caught:
                bench.lay(sheet, level)
            self.assertEqual(caught.exception.pieces, [at for at, spot in enumerate(spots) if spot is None])
            return bench.page()
        slow.do([(spot[0], piece[2], piece[3]) for spot, piece in zip(spots, sheet)])
        return bench.lay(sheet, level)

    def test_many_deeds(self):
        chance = random.Random(17)
        for _ in range(150):
            page = [chance.choice("ab") for _ in range(chance.randrange(6))]
            bench, slow = Bench(page), SlowBench(page)
            for _ in range(25):
                told = self.some_deed(chance, bench, slow)
                self.assertEqual(told, slow.states[slow.now][0])
                self.check(bench, slow)

    def test_a_page_that_grows_beyond_a_handed_in_ones_bound(self):
        bench = Bench(["a"] * 2000)
        self.assertEqual(len(bench.do([(2000, [], ["b"] * 500)])), 2500)
        self.assertEqual(len(bench.do([(0, ["a"], []), (1999, ["a"] + ["b"] * 499, ["c"])])), 2500 - 500)
        self.assertEqual(bench.whence()[-2:], [1, 0])
        bench.undo()
        told = bench.lay([(1990, ["a"], ["b"] * 500, ["d"], [])])
        self.assertEqual(told, ["a"] * 2000 + ["d"])
        self.assertEqual(bench.undo(), ["a"] * 2000 + ["b"] * 500)
        self.assertEqual(bench.undo(), ["a"] * 2000)


if __name__ == "__main__":
    unittest.main()
