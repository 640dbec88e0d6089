"""Points 5 to 7: two changes one behind the other, side by side, exchanged."""

import copy
import random
import unittest

from patchlay.answers import Answer, Both, Quarrel
from patchlay.changes import done, turned
from patchlay.errors import Clash
from patchlay.pairs import behind, beside, exchanged, merged
from small import changes, is_valid, is_within, lines_of, pages, share_lists, slow_done

OPTIONS = [[], ["a"], ["x"]]


def some_page(chance, most=12):
    return [chance.choice("abc") for _ in range(chance.randrange(most))]


def some_change(chance, page):
    """A change that fits the page, by chance."""
    change = []
    place = chance.randrange(3)
    while place <= len(page):
        takes = page[place:place + chance.choice((0, 0, 1, 2))]
        puts = [chance.choice("abcx") for _ in range(chance.choice((0, 1, 1, 3)))]
        if takes or puts:
            change.append((place, takes, puts))
        place += len(takes) + chance.choice((1, 1, 2, 4))
    return change


class Behind(unittest.TestCase):
    def told(self, page, one, other):
        """Assert that what is told does as both, of their lines only."""
        before = copy.deepcopy((one, other))
        told = behind(one, other)
        self.assertTrue(is_valid(told))
        self.assertEqual(slow_done(page, told), slow_done(slow_done(page, one), other))
        for at in (1, 2):
            self.assertTrue(is_within(lines_of([told], at), lines_of([one, other], at)))
        self.assertFalse(share_lists(told, one))
        self.assertFalse(share_lists(told, other))
        self.assertEqual((one, other), before)

    def test_all_small_ones(self):
        for page in pages("ab", 2):
            for one in changes(page, OPTIONS):
                between = slow_done(page, one)
                if len(between) > 3:
                    continue
                for other in changes(between, OPTIONS):
                    self.told(page, one, other)

    def test_many_larger_ones(self):
        chance = random.Random(5)
        for _ in range(3000):
            page = some_page(chance)
            one = some_change(chance, page)
            self.told(page, one, some_change(chance, slow_done(page, one)))

    def test_plain_ones(self):
        self.assertEqual(behind([(0, ["a"], ["b"])], [(0, ["b"], ["c"])]), [(0, ["a"], ["c"])])
        self.assertEqual(behind([], []), [])
        self.assertEqual(behind([(1, ["a"], [])], []), [(1, ["a"], [])])
        self.assertEqual(behind([], [(1, [], ["a"])]), [(1, [], ["a"])])

    def test_what_is_put_and_taken_again_is_no_line_of_it(self):
        self.assertEqual(behind([(3, [], ["a", "b"])], [(3, ["a", "b"], [])]), [])
        self.told(["q"] * 5, [(3, [], ["a", "b", "c"])], [(4, ["b"], [])])

    def test_pieces_that_touch_once_both_are_done_become_one(self):
        self.assertEqual(behind([(1, ["b"], [])], [(1, ["c"], [])]), [(1, ["b", "c"], [])])
        self.assertEqual(behind([(1, ["b"], [])], [(0, ["a"], [])]), [(0, ["a", "b"], [])])
        self.assertEqual(behind([(1, [], ["x"])], [(1, [], ["w"])]), [(1, [], ["w", "x"])])
        self.assertEqual(behind([(1, [], ["x"])], [(2, [], ["y"])]), [(1, [], ["x", "y"])])

    def test_another_one_that_covers_several_pieces(self):
        one = [(1, ["b"], ["x"]), (3, ["d"], ["y", "z"])]
        other = [(0, ["a", "x", "c", "y"], ["q"])]
        self.assertEqual(behind(one, other), [(0, ["a", "b", "c", "d"], ["q", "z"])])

    def test_a_place_at_the_pages_end(self):
        self.told(["a"], [(1, [], ["x"])], [(2, [], ["y"])])
        self.told([], [(0, [], ["x"])], [(1, [], ["y"])])
        self.told(["a", "b"], [(0, ["a", "b"], [])], [(0, [], ["y"])])

    def test_longest_ones(self):
        page = ["a"] * 2000
        one = [(4 * at, ["a"], ["b"] * 500) for at in range(500)]
        between = slow_done(page, one)
        other = [(4 * at, between[4 * at:4 * at + 3], ["c"] * 500) for at in range(500)]
        self.told(page, one, other)
        one = [(4 * at, ["a"], ["b"]) for at in range(500)]
        between = slow_done(page, one)
        other = [(4 * at + 1, between[4 * at + 1:4 * at + 3], []) for at in range(499)]
        self.told(page, one, other + [(1998, ["a"] * 2, ["c"] * 500)])
        self.assertEqual(len(behind([(0, ["a"] * 500, [])], [(2000, ["b"] * 500, [])])), 2)


class ClashFields(unittest.TestCase):
    def clash(self, one, other):
        with self.assertRaises(Clash) as caught:
            behind(one, other)
        return caught.exception.piece, caught.exception.line

    def test_the_others_first_piece_and_its_first_line(self):
        one = [(1, ["b"], ["x", "y"]), (4, [], ["z"])]
        self.assertEqual(self.clash(one, [(1, ["b"], [])]), (0, 0))
        self.assertEqual(self.clash(one, [(1, ["x", "z"], [])]), (0, 1))
        self.assertEqual(self.clash(one, [(0, ["q", "x", "q"], [])]), (0, 2))
        self.assertEqual(self.clash(one, [(1, ["x"], []), (3, ["q", "q", "q"], [])]), (1, 2))
        self.assertEqual(self.clash(one, [(0, [], ["q"]), (2, ["q"], []), (5, ["q"], [])]), (1, 0))

    def test_lines_that_no_one_has_put_may_be_any(self):
        self.assertEqual(behind([(1, ["b"], ["x"])], [(0, ["q", "x", "q"], [])]), [(0, ["q", "b", "q"], [])])
        self.assertEqual(behind([(1, ["b"], [])], [(1, ["q"], [])]), [(1, ["b", "q"], [])])

    def test_a_clash_just_where_a_put_line_is_taken_as_another(self):
        page = ["a", "b"]
        for one in changes(page, OPTIONS):
            between = slow_done(page, one)
            put = set()
            for place, _, puts in turned(one):
                put.update(range(place, place + len(turned_takes(one, place))))
            for at, line in enumerate(between):
                other = [(at, [line + "!"], [])]
                if at in put:
                    self.assertEqual(self.clash(one, other), (0, 0))
                else:
                    behind(one, other)


def turned_takes(one, place):
    """The lines that stand from the place on because a piece has put them."""
    return [takes for at, takes, _ in turned(one) if at == place][0]


def slow_meet(piece, against):
    """Whether two pieces meet, by the places from each one's place to its end."""
    own = set(range(piece[0], piece[0] + len(piece[1]) + 1))
    return bool(own & set(range(against[0], against[0] + len(against[1]) + 1)))


class Beside(unittest.TestCase):
    def check(self, page, one, other):
        before = copy.deepcopy((one, other))
        told = beside(one, other)
        whole = merged(one, other)
        pairs = [(i, j) for i in range(len(one)) for j in range(len(other))
                 if slow_meet(one[i], other[j]) and one[i] != other[j]]
        self.assertIsInstance(told, Answer)
        if pairs:
            self.assertIs(type(told), Quarrel)
            self.assertEqual(told.pairs, pairs)
            self.assertIsNone(whole)
        else:
            self.assertIs(type(told), Both)
            self.check_both(page, one, other, told, whole)
        self.assertEqual((one, other), before)
        return bool(pairs)

    def check_both(self, page, one, other, told, whole):
        self.assertTrue(is_valid(told.one) and is_valid(told.other) and is_valid(whole))
        self.assertEqual([piece[1:] for piece in told.one], [piece[1:] for piece in one if piece not in other])
        self.assertEqual([piece[1:] for piece in told.other], [piece[1:] for piece in other if piece not in one])
        last = slow_done(slow_done(page, one), told.other)
        self.assertEqual(slow_done(slow_done(page, other), told.one), last)
        self.assertEqual(slow_done(page, whole), last)
        self.assertEqual(sorted(whole), sorted(one + [piece for piece in other if piece not in one]))
        self.assertFalse(share_lists(told.one, told.other, whole))
        for given in (one, other):
            self.assertFalse(share_lists(told.one, told.other, whole, given))

    def test_all_small_ones(self):
        page = ["a", "b", "b"]
        own = changes(page, OPTIONS)
        quarrels = [self.check(page, one, other) for one in own for other in own]
        self.assertIn(True, quarrels)
        self.assertIn(False, quarrels)

    def test_many_larger_ones(self):
        chance = random.Random(6)
        for _ in range(3000):
            page = some_page(chance, 30)
            both = [some_change(chance, page) for _ in range(2)]
            few = [[piece for piece in change if chance.randrange(3) == 0] for change in both]
            self.check(page, few[0], few[1])
            self.check(page, few[0], sorted(few[0] + [piece for piece in few[1] if not any(
                slow_meet(piece, own) for own in few[0])]))

    def test_plain_ones(self):
        one = [(0, [], ["x", "y"]), (5, ["f"], [])]
        other = [(2, ["c"], []), (8, [], ["z"])]
        told = beside(one, other)
        self.assertEqual(told.other, [(4, ["c"], []), (9, [], ["z"])])
        self.assertEqual(told.one, [(0, [], ["x", "y"]), (4, ["f"], [])])
        self.assertEqual(merged(one, other), [one[0], other[0], one[1], other[1]])

    def test_empty_ones(self):
        told = beside([], [])
        self.assertEqual((told.other, told.one), ([], []))
        self.assertEqual(merged([], []), [])
        self.assertEqual(beside([], [(1, ["a"], [])]).other, [(1, ["a"], [])])

    def test_pieces_meet_up_to_the_place_at_the_others_end(self):
        piece = (3, ["a", "a"], ["x"])
        for place, takes, meets in ((0, 2, False), (0, 3, True), (2, 0, False), (3, 0, True), (4, 0, True),
                                    (5, 0, True), (6, 0, False), (5, 1, True), (6, 1, False), (2, 9, True)):
            against = (place, ["a"] * takes, ["y"])
            self.assertEqual(type(beside([piece], [against])), Quarrel if meets else Both)
            self.assertEqual(type(beside([against], [piece])), Quarrel if meets else Both)
            self.assertEqual(merged([piece], [against]) is None, meets)

    def test_like_pieces_agree_and_are_left_out(self):
        like = (3, ["a"], ["x", "y"])
        told = beside([like, (9, ["b"], [])], [(0, [], ["q"]), (3, ["a"], ["x", "y"]), (7, ["c"], [])])
        self.assertEqual(told.other, [(0, [], ["q"]), (8, ["c"], [])])
        self.assertEqual(told.one, [(10, ["b"], [])])
        self.assertEqual(merged([like], [like]), [like])
        insertion = (2, [], ["x"])
        self.assertEqual(beside([insertion], [insertion]).other, [])

    def test_pieces_that_are_alike_but_in_part_quarrel(self):
        piece = (3, ["a"], ["x"])
        for against in ((3, ["a"], ["y"]), (3, ["b"], ["x"]), (3, ["a"], ["x", "x"]), (4, ["a"], ["x"])):
            self.assertEqual(beside([piece], [against]).pairs, [(0, 0)])

    def test_all_pairs_are_told_in_order(self):
        one = [(0, ["a"] * 4, []), (6, [], ["x"]), (8, ["a"], [])]
        other = [(0, [], ["y"]), (2, ["a"], []), (4, ["a"] * 3, []), (8, ["a"], [])]
        told = beside(one, other).pairs
        self.assertEqual(told, [(0, 0), (0, 1), (0, 2), (1, 2)])
        self.assertTrue(all(type(pair) is tuple for pair in told))
        self.assertIsNone(merged(one, other))

    def test_most_pieces(self):
        one = [(4 * at, ["a"], ["b"]) for at in range(500)]
        other = [(4 * at + 2, ["a"], []) for at in range(500)]
        self.assertFalse(self.check(["a"] * 2000, one, other))
        self.assertEqual(len(merged(one, other)), 1000)
        self.assertTrue(self.check(["a"] * 2001, one, [(4 * at + 1, ["a"], []) for at in range(500)]))


class Exchanged(unittest.TestCase):
    def check(self, page, one, other):
        before = copy.deepcopy((one, other))
        told = exchanged(one, other)
        self.assertEqual((one, other), before)
        spans = [(place, takes, []) for place, takes, _ in turned(one)]
        if any(slow_meet(piece, span) for piece in other for span in spans):
            self.assertIsNone(told)
            return False
        self.assertIs(type(told), tuple)
        ahead, after = told
        self.assertTrue(is_valid(ahead) and is_valid(after))
        self.assertEqual([piece[1:] for piece in ahead], [piece[1:] for piece in other])
        self.assertEqual([piece[1:] for piece in after], [piece[1:] for piece in one])
        self.assertEqual(slow_done(slow_done(page, ahead), after), slow_done(slow_done(page, one), other))
        self.assertFalse(share_lists(ahead, after, one) or share_lists(ahead, after, other))
        return True

    def test_all_small_ones(self):
        seen = []
        for page in pages("ab", 2):
            for one in changes(page, OPTIONS):
                between = slow_done(page, one)
                if len(between) <= 3:
                    seen += [self.check(page, one, other) for other in changes(between, OPTIONS)]
        self.assertIn(True, seen)
        self.assertIn(False, seen)

    def test_many_larger_ones(self):
        chance = random.Random(7)
        seen = []
        for _ in range(4000):
            page = some_page(chance, 30)
            one = some_change(chance, page)
            one = [piece for piece in one if chance.randrange(4) == 0]
            other = some_change(chance, slow_done(page, one))
            other = [piece for piece in other if chance.randrange(4) == 0]
            seen.append(self.check(page, one, other))
        self.assertIn(True, seen)
        self.assertIn(False, seen)

    def test_plain_ones(self):
        one = [(0, [], ["x", "y"]), (4, ["e"], [])]
        other = [(4, ["c"], ["q", "q"]), (8, [], ["z"])]
        self.assertEqual(exchanged(one, other), ([(2, ["c"], ["q", "q"]), (7, [], ["z"])],
                                                 [(0, [], ["x", "y"]), (5, ["e"], [])]))
        self.assertEqual(exchanged([], []), ([], []))
        self.assertEqual(exchanged(one, []), ([], one))
        self.assertEqual(exchanged([], other), (other, []))

    def test_what_touches_or_covers_what_was_put_is_not_exchanged(self):
        one = [(3, ["a"], ["x", "y"])]
        for place, takes, meets in ((0, 2, False), (0, 3, True), (2, 0, False), (3, 0, True), (4, 0, True),
                                    (5, 0, True), (6, 0, False), (5, 1, True), (6, 2, False), (1, 8, True)):
            other = [(place, ["q"] * takes, ["z"])]
            self.assertEqual(exchanged(one, other) is None, meets, other)

    def test_where_lines_were_only_taken_the_place_alone_counts(self):
        one = [(3, ["a", "a"], [])]
        for place, takes, meets in ((2, 0, False), (2, 1, True), (3, 0, True), (3, 1, True), (4, 1, False)):
            self.assertEqual(exchanged(one, [(place, ["q"] * takes, ["z"])]) is None, meets)

    def test_a_change_and_the_one_that_undoes_it_are_not_exchanged(self):
        one = [(3, ["a"], ["x"])]
        self.assertIsNone(exchanged(one, turned(one)))
        self.assertIsNone(exchanged(one, one))

    def test_most_pieces(self):
        one = [(4 * at, ["a"], []) for at in range(500)]
        other = [(3 * at + 1, ["a"], ["b"] * 2) for at in range(500)]
        self.assertTrue(self.check(["a"] * 2000, one, other))
        page = done(["a"] * 2000, one)
        self.assertEqual(len(page), 1500)


if __name__ == "__main__":
    unittest.main()
