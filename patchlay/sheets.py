"""Sheets: told of a change, laid on a page, as many of their pieces as can be."""

from patchlay.answers import Laid, Most
from patchlay.kinds import MOST_AROUND, MOST_LEVEL
from patchlay.kinds import check_change, check_fits, check_number, check_page, check_sheet
from patchlay.laying import change_of, lacking_of, spots_on
from patchlay.pieces import end_of
from patchlay.places import next_places, stands_around


def around(page, change, many=3):
    """The sheet of the change, with so many of the page's lines around each piece as there is room for."""
    check_page(page)
    check_change(change)
    check_number(many, MOST_AROUND)
    check_fits(page, change)
    return _with_lines_around(page, change, many)


def laid(page, sheet, level=0):
    """Where the sheet's pieces are laid on the page, up to the level, and what the refused ones lack."""
    check_page(page)
    check_sheet(sheet)
    check_number(level, MOST_LEVEL)
    spots = spots_on(page, sheet, level)
    return Laid(spots, change_of(sheet, spots), lacking_of(page, sheet, level, spots))


def least_around(page, change):
    """For each piece the least number of lines around with which it fits one place alone, or None."""
    check_page(page)
    check_change(change)
    check_fits(page, change)
    return [_least_many(page, piece) for piece in _with_lines_around(page, change, MOST_AROUND)]


def most(page, sheet):
    """Places for as many of the sheet's pieces as can be, and the marks that show it."""
    check_page(page)
    check_sheet(sheet)
    nexts = [next_places(page, piece) for piece in sheet]
    marks = _least_ends(sheet, nexts)
    many = len([mark for mark in marks[-1] if mark is not None]) - 1
    # Of the counts for which there is no mark just the one more is told.
    marks = [row[:many + 2] for row in marks]
    return Most(_places_by(marks, nexts, many), marks)


def _with_lines_around(page, change, many):
    """The sheet of a change that fits the page."""
    sheet = []
    end = 0
    limits = [piece[0] for piece in change[1:]] + [len(page)]
    for piece, limit in zip(change, limits):
        place, takes, puts = piece
        ahead = page[max(end, place - many):place]
        end = end_of(piece)
        sheet.append((place, ahead, list(takes), list(puts), page[end:min(limit, end + many)]))
    return sheet


def _least_many(page, piece):
    """The least number of lines around with which the piece fits its own place alone, or None.

    The piece has as many lines around as there may be.
    """
    least = 0
    for place, stand in enumerate(stands_around(page, piece)):
        if place != piece[0] and stand is not None:
            least = max(least, _many_that_bar(piece, stand))
    if least > MOST_AROUND:
        return None
    return least


def _many_that_bar(piece, stand):
    """The least number of lines around with which the piece doesn't fit where so many of them stand."""
    bars = [MOST_AROUND + 1]
    for lines, many in zip((piece[1], piece[4]), stand):
        if many < len(lines):
            bars.append(many + 1)
    return min(bars)


def _least_ends(sheet, nexts):
    """For each many of the pieces, and each count of them: the least end that so many can have, or None."""
    marks = [[-1] + [None] * (len(sheet) + 1)]
    for piece, fitting in zip(sheet, nexts):
        row = list(marks[-1])
        # A count can't be above how many pieces there have been.
        for count in range(1, len(marks) + 1):
            place = _place_above(marks[-1][count - 1], fitting)
            if place is not None:
                end = place + len(piece[2])
                if row[count] is None or row[count] > end:
                    row[count] = end
        marks.append(row)
    return marks


def _place_above(mark, fitting):
    """The least place above the mark where the piece fits, or None."""
    if mark is None or mark + 1 >= len(fitting):
        return None
    return fitting[mark + 1]


def _places_by(marks, nexts, many):
    """A place for so many of the pieces, None for the others, by the marks from behind."""
    places = []
    count = many
    for at in reversed(range(len(nexts))):
        place = None
        if marks[at][count] != marks[at + 1][count]:
            count -= 1
            place = _place_above(marks[at][count], nexts[at])
        places.append(place)
    return places[::-1]
