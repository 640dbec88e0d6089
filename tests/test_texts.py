"""Point 14: sheets written as texts, and read."""

import copy
import random
import re
import unittest
from itertools import product

from patchlay.errors import BadRows
from patchlay.kinds import is_sheet
from patchlay.sheets import around
from patchlay.texts import read, written
from small import changes, is_own, pages

SHEET = [(2, ["a", ""], ["b"], ["c", "- d"], [" e"]), (12, [], [], ["@ 3"], []), (13, [], ["=", "+"], [], ["x"])]
TEXT = "@ 2\n a\n \n-b\n+c\n+- d\n= e\n@ 12\n+@ 3\n@ 13\n-=\n-+\n=x\n"


def slow_written(sheet):
    """The text of a sheet, sign by sign."""
    text = ""
    for place, ahead, takes, puts, after in sheet:
        text += "@ " + str(place) + "\n"
        for sign, lines in ((" ", ahead), ("-", takes), ("+", puts), ("=", after)):
            for line in lines:
                text += sign + line + "\n"
    return text


def loosely_read(text):
    """The sheet if the text is just what is written of one, else None."""
    if text and not text.endswith("\n"):
        return None
    sheet = []
    for row in text.split("\n")[:-1]:
        if re.fullmatch("@ [0-9]{1,9}", row):
            sheet.append((int(row[2:]), [], [], [], []))
        elif sheet and row and row[0] in " -+=":
            sheet[-1][" -+=".index(row[0]) + 1].append(row[1:])
        else:
            return None
    return sheet if is_sheet(sheet) and slow_written(sheet) == text else None


def slow_row(text):
    """The number of the first row up to which the text is the beginning of none that is written; None if it is one."""
    rows = text.split("\n")
    ended, rest = rows[:-1], rows[-1]
    for at in range(len(ended)):
        so_far = "".join(row + "\n" for row in ended[:at + 1])
        # The shortest way to make a beginning whole is to let its last piece put a line.
        if loosely_read(so_far) is None and loosely_read(so_far + "+x\n") is None:
            return at
    return len(ended) if rest or loosely_read(text) is None else None


class Writing(unittest.TestCase):
    def test_a_row_for_each_place_and_line(self):
        before = copy.deepcopy(SHEET)
        self.assertEqual(written(SHEET), TEXT)
        self.assertEqual(SHEET, before)

    def test_an_empty_sheet_is_an_empty_text(self):
        self.assertEqual(written([]), "")
        self.assertEqual(read(""), [])

    def test_all_signs(self):
        signs = "".join(chr(number) for number in range(32, 127))
        sheet = [(0, [signs], [signs, " "], list(signs), ["", signs])]
        self.assertEqual(written(sheet), slow_written(sheet))
        self.assertEqual(read(written(sheet)), sheet)

    def test_sheets_of_all_small_changes(self):
        for page in pages("ab", 3):
            for change in changes(page, [[], ["x"]]):
                for many in (0, 2):
                    sheet = around(page, change, many)
                    self.assertEqual(written(sheet), slow_written(sheet))
                    self.assertEqual(read(written(sheet)), sheet)


class Reading(unittest.TestCase):
    def row(self, text):
        with self.assertRaises(BadRows) as caught:
            read(text)
        self.assertIs(type(caught.exception), BadRows)
        return caught.exception.row

    def check(self, text):
        """Assert that the text is read as the slow way tells it, or refused at the same row."""
        row = slow_row(text)
        if row is None:
            told = read(text)
            self.assertEqual(told, loosely_read(text))
            self.assertTrue(all(type(piece) is tuple for piece in told))
            self.assertTrue(is_own(told))
        else:
            self.assertEqual(self.row(text), row, text)
        return row is None

    def test_what_is_written(self):
        self.assertEqual(read(TEXT), SHEET)

    def test_all_short_texts(self):
        rows = ["@ 0", "@ 1", "@ 2", "@ 02", " a", "-a", "+b", "=c", "", "a"]
        right = 0
        for many in range(5):
            for chosen in product(rows, repeat=many):
                right += self.check("".join(row + "\n" for row in chosen))
                if chosen:
                    self.check("\n".join(chosen))
        self.assertGreater(right, 50)

    def test_rows_twice_left_out_and_exchanged(self):
        rows = TEXT.split("\n")[:-1]
        for at in range(len(rows)):
            self.check("".join(row + "\n" for row in rows[:at] + rows[at + 1:]))
            self.check("".join(row + "\n" for row in rows[:at] + [rows[at]] + rows[at:]))
            for by in range(at):
                mixed = list(rows)
                mixed[at], mixed[by] = mixed[by], mixed[at]
                self.check("".join(row + "\n" for row in mixed))

    def test_each_sign_left_out_or_another(self):
        for at in range(len(TEXT)):
            self.check(TEXT[:at])
            self.check(TEXT[:at] + TEXT[at + 1:])
            for sign in "@ -+=0a\n\t~":
                self.check(TEXT[:at] + sign + TEXT[at + 1:])
                self.check(TEXT[:at] + sign + TEXT[at:])

    def test_many_mixed_texts(self):
        chance = random.Random(16)
        rows = ["@ 0", "@ 1", "@ 3", "@ 5", "@ 9", " a", "-a", "+b", "=c", "-a", "+b", "@ 11", " ", "-", "+", "="]
        for _ in range(5000):
            self.check("".join(chance.choice(rows) + "\n" for _ in range(chance.randrange(12))))

    def test_no_line_feed_at_the_end(self):
        self.assertEqual(self.row("@ 1"), 0)
        self.assertEqual(self.row("@ 1\n-a"), 1)
        self.assertEqual(self.row("@ 1\n-a\n+b\n@ 3\n+c"), 4)
        self.assertEqual(self.row(TEXT[:-1]), 12)

    def test_a_line_feed_too_many(self):
        self.assertEqual(self.row("\n"), 0)
        self.assertEqual(self.row(TEXT + "\n"), 13)
        self.assertEqual(self.row("\n" + TEXT), 0)
        self.assertEqual(self.row("@ 1\n\n-a\n"), 1)

    def test_a_line_ahead_of_the_first_place(self):
        for row in (" a", "-a", "+a", "=a", "a", " @ 1"):
            self.assertEqual(self.row(row + "\n@ 1\n-a\n"), 0)

    def test_numbers_written_otherwise(self):
        for number in ("01", "00", "+1", "-1", "-0", " 1", "1 ", "", " ", "1_0", "0x1", "1.0", "1e1", "a", "1 2",
                       "2001", "9999", "02000", "1" * 5, "9" * 5000, "0" * 5000, "1,000"):
            self.assertEqual(self.row("@ " + number + "\n-a\n"), 0, number)
        for row in ("@1", "@", "@\t1", " @ 1", "@  1", "@@ 1", "@ 1@", "1", "@ 1\r"):
            self.assertEqual(self.row(row + "\n-a\n"), 0, row)
        for number in (0, 7, 10, 999, 1000, 1999, 2000):
            self.assertEqual(read("@ " + str(number) + "\n-a\n"), [(number, [], ["a"], [], [])])

    def test_rows_in_another_order(self):
        self.assertEqual(self.row("@ 1\n-a\n b\n"), 2)
        self.assertEqual(self.row("@ 1\n+a\n-b\n"), 2)
        self.assertEqual(self.row("@ 1\n+a\n b\n"), 2)
        self.assertEqual(self.row("@ 1\n-a\n=b\n+c\n"), 3)
        self.assertEqual(self.row("@ 1\n-a\n=b\n-c\n"), 3)
        self.assertEqual(self.row("@ 1\n-a\n=b\n c\n"), 3)

    def test_a_piece_that_neither_takes_nor_puts(self):
        self.assertEqual(self.row("@ 1\n=a\n+b\n"), 1)
        self.assertEqual(self.row("@ 1\n b\n=a\n"), 2)
        self.assertEqual(self.row("@ 1\n@ 3\n-a\n"), 1)
        self.assertEqual(self.row("@ 1\n a\n@ 3\n-a\n"), 2)
        # Of the last one the row behind it lacks.
        self.assertEqual(self.row("@ 1\n"), 1)
        self.assertEqual(self.row("@ 1\n a\n b\n"), 3)
        self.assertEqual(self.row("@ 1\n-a\n@ 3\n a\n"), 4)
        self.assertEqual(self.row("@ 1\n a"), 1)

    def test_a_place_that_is_not_above_the_end_of_the_piece_ahead(self):
        self.assertEqual(self.row("@ 1\n-a\n-b\n+c\n@ 3\n-d\n"), 4)
        self.assertEqual(read("@ 1\n-a\n-b\n+c\n@ 4\n-d\n")[1][0], 4)
        self.assertEqual(self.row("@ 5\n+a\n@ 5\n+b\n"), 2)
        self.assertEqual(self.row("@ 5\n+a\n@ 4\n+b\n"), 2)
        self.assertEqual(read("@ 5\n+a\n@ 6\n+b\n")[1][0], 6)

    def test_lines_around_beyond_9(self):
        ahead = "@ 20\n" + " a\n" * 9
        self.assertEqual(read(ahead + "-b\n"), [(20, ["a"] * 9, ["b"], [], [])])
        self.assertEqual(self.row(ahead + " a\n-b\n"), 10)
        behind = "@ 20\n-b\n" + "=a\n" * 9
        self.assertEqual(read(behind), [(20, [], ["b"], [], ["a"] * 9)])
        self.assertEqual(self.row(behind + "=a\n"), 11)

    def test_lines_taken_and_put_beyond_500(self):
        text = "@ 0\n" + "-a\n" * 500 + "+b\n" * 500
        self.assertEqual(read(text), [(0, [], ["a"] * 500, ["b"] * 500, [])])
        self.assertEqual(self.row(text + "+b\n"), 1001)
        self.assertEqual(self.row("@ 0\n" + "-a\n" * 501), 501)

    def test_pieces_beyond_500(self):
        sheet = [(2 * at, ["x"], ["a"], [], []) for at in range(500)]
        self.assertEqual(read(written(sheet)), sheet)
        self.assertEqual(self.row(written(sheet) + "@ 1500\n-a\n"), 1500)

    def test_signs_that_no_line_has(self):
        for sign in ("\t", "\r", "\x00", "\x0b", "\x0c", "\x1c", "\x1f", "\x7f"):
            self.assertEqual(self.row("@ 1\n-a" + sign + "\n"), 1)
            self.assertEqual(self.row("@ 1\n a\n-b\n" + sign + "a\n"), 3)
        self.assertEqual(self.row("@ 1\n-a\r\n"), 1)
        self.assertEqual(self.row("@ 1\r\n-a\n"), 0)

    def test_what_is_read_is_the_askers_own(self):
        told = read(TEXT)
        told[0][1].append("q")
        told.append("q")
        self.assertEqual(read(TEXT), SHEET)

    def test_the_longest_text(self):
        nine = ["a" * 9] * 9
        sheet = [(4 * at, nine, ["b"] * 3, ["c"] * 500, nine) for at in range(500)]
        self.assertEqual(read(written(sheet)), sheet)


if __name__ == "__main__":
    unittest.main()
