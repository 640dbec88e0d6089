"""What is told of several fields, and whether the numbers in it show what they should."""

from patchlay.kinds import check_page, check_sheet, is_number, is_told_change
from patchlay.pieces import first_unfit, replaced
from patchlay.places import next_places


class Answer:
    """What all answers of several fields are."""


class Both(Answer):
    """Two changes side by side: each as it is when the other one was done."""

    def __init__(self, other, one):
        self.other = _copied(other)
        self.one = _copied(one)


class Quarrel(Answer):
    """The pairs of numbers of pieces that meet and don't agree."""

    def __init__(self, pairs):
        self.pairs = _copied(pairs)


class Made(Answer):
    """A change from a page to another one, and heights that show that none has fewer lines."""

    def __init__(self, change, heights):
        self.change = _copied(change)
        self.heights = _copied(heights)

    def shows(self, old, new):
        """Whether the change leads from the old page to the new one, and the heights show it."""
        check_page(old)
        check_page(new)
        if not _leads(self.change, old, new) or not _is_height_table(self.heights, old, new):
            return False
        if self.heights[0][0] != 0 or self.heights[-1][-1] != _lines_in(self.change):
            return False
        return _are_no_steps_too_high(self.heights, old, new)


class Laid(Answer):
    """Where the pieces of a sheet are laid, the change that they are, and what the refused ones lack."""

    def __init__(self, spots, change, lacking):
        self.spots = _copied(spots)
        self.change = _copied(change)
        self.lacking = _copied(lacking)


class Most(Answer):
    """Places for as many pieces of a sheet as can be, and marks that show that there can't be more."""

    def __init__(self, places, marks):
        self.places = _copied(places)
        self.marks = _copied(marks)

    def shows(self, page, sheet):
        """Whether the pieces fit the page at their places, and the marks show that there can't be more."""
        check_page(page)
        check_sheet(sheet)
        nexts = [next_places(page, piece) for piece in sheet]
        if not _are_places(self.places, sheet, nexts):
            return False
        placed = len([place for place in self.places if place is not None])
        if not _is_mark_table(self.marks, sheet, placed):
            return False
        if self.marks[0][0] != -1 or self.marks[-1][-1] is not None:
            return False
        return _are_marks_following(self.marks, sheet, nexts)


def _copied(value):
    """The same with new lists, within lists and tuples, too."""
    if isinstance(value, list):
        return [_copied(part) for part in value]
    if isinstance(value, tuple):
        return tuple([_copied(part) for part in value])
    return value


def _leads(change, old, new):
    """Whether it is a change that fits the old page and makes the new one of it."""
    return is_told_change(change) and first_unfit(old, change) is None and replaced(old, change) == new


def _lines_in(change):
    """How many lines the change takes and puts."""
    return sum(len(takes) + len(puts) for _, takes, puts in change)


def _is_table(value, rows, columns):
    """Whether it is a list of so many lists, each of so many."""
    if not isinstance(value, list) or len(value) != rows:
        return False
    return all(isinstance(row, list) and len(row) == columns for row in value)


def _is_height_table(heights, old, new):
    """Whether there is a number for each many of either page's lines."""
    if not _is_table(heights, len(old) + 1, len(new) + 1):
        return False
    return all(is_number(height) for row in heights for height in row)


def _are_no_steps_too_high(heights, old, new):
    """Whether no height is more than the ones ahead of it let it be."""
    if not all(_rises_by_one(row) for row in heights):
        return False
    for at, line in enumerate(old):
        if not _row_follows(heights[at], heights[at + 1], line, new):
            return False
    return True


def _rises_by_one(row):
    """Whether each height is at most 1 more than the one for one line fewer of the new page."""
    for lower, height in zip(row, row[1:]):
        if height > lower + 1:
            return False
    return True


def _row_follows(row, below, line, new):
    """Whether the next row, with the old page's next line, is no higher than this one lets it be."""
    for height, lower in zip(below, row):
        if height > lower + 1:
            return False
    for at, other in enumerate(new):
        if other == line and below[at + 1] > row[at]:
            return False
    return True


def _are_places(places, sheet, nexts):
    """Whether there is a place or None for each piece, and each fits there, above the end of the one ahead."""
    if not isinstance(places, list) or len(places) != len(sheet):
        return False
    end = -1
    for place, piece, fitting in zip(places, sheet, nexts):
        if place is not None:
            # The end is never below -1, so no place below 0 is asked for.
            if not is_number(place) or place <= end or place >= len(fitting) or fitting[place] != place:
                return False
            end = place + len(piece[2])
    return True


def _is_mark_table(marks, sheet, placed):
    """Whether there is a number or None for each many of the pieces and each count."""
    if not _is_table(marks, len(sheet) + 1, placed + 2):
        return False
    return all(mark is None or is_number(mark) for row in marks for mark in row)


def _are_marks_following(marks, sheet, nexts):
    """Whether each row of marks has what the one ahead asks for."""
    for at, piece in enumerate(sheet):
        if not _row_of_marks_follows(marks[at], marks[at + 1], piece, nexts[at]):
            return False
    return True


def _row_of_marks_follows(row, below, piece, fitting):
    """Whether the next row, with the next piece, has the marks that this one asks for."""
    for mark, lower in zip(row, below):
        if mark is not None and (lower is None or lower > mark):
            return False
    # The mark for the last count has none for one more.
    for mark, further in zip(row, below[1:]):
        end = _least_end(mark, piece, fitting)
        if end is not None and (further is None or further > end):
            return False
    return True


def _least_end(mark, piece, fitting):
    """The end of the piece at the least place above the mark where it fits; None if there is none."""
    if mark is None or mark + 1 >= len(fitting):
        return None
    place = fitting[max(mark + 1, 0)]
    if place is None:
        return None
    return place + len(piece[2])
