"""Sheets as texts: written and read."""

from patchlay.errors import BadRows
from patchlay.kinds import MOST_AROUND, MOST_PIECE_LINES, MOST_PIECES, MOST_PLACE, check_sheet, is_line

PLACE_SIGN = "@ "
# The signs of a piece's lines, in the order of its parts behind the place.
SIGNS = " -+="
AHEAD = 1
TAKES = 2
PUTS = 3
BEHIND = 4


def written(sheet):
    """The sheet as a text, a row for each place and each line."""
    check_sheet(sheet)
    return "".join([row + "\n" for piece in sheet for row in _rows_of(piece)])


def read(text):
    """The sheet that is written as the text; refused as BadRows, with its first row that is none."""
    if not isinstance(text, str):
        raise BadRows(0)
    rows = text.split("\n")
    # The last line feed ends the last row, so nothing should stand behind it.
    rest = rows.pop()
    sheet = []
    for at, row in enumerate(rows):
        if not _can_follow(sheet, row):
            raise BadRows(at)
        _add_row(sheet, row)
    if rest != "" or not _is_last_whole(sheet):
        raise BadRows(len(rows))
    return sheet


def _rows_of(piece):
    """The rows of one piece, without line feeds."""
    rows = [PLACE_SIGN + str(piece[0])]
    for sign, lines in zip(SIGNS, piece[1:]):
        rows.extend([sign + line for line in lines])
    return rows


def _is_last_whole(sheet):
    """Whether the last piece, if there is one, takes or puts something."""
    return not sheet or len(sheet[-1][TAKES]) + len(sheet[-1][PUTS]) > 0


def _can_follow(sheet, row):
    """Whether the row is written as one should be and can stand behind those that made the sheet."""
    if row.startswith(PLACE_SIGN):
        return _can_begin(sheet, row)
    part = _part_of(row)
    if part is None or not sheet or not is_line(row):
        return False
    piece = sheet[-1]
    if any(piece[later] for later in range(part + 1, BEHIND + 1)):
        return False
    if part == BEHIND and not _is_last_whole(sheet):
        return False
    return len(piece[part]) < _most_lines(part)


def _can_begin(sheet, row):
    """Whether the row can begin a piece behind those of the sheet."""
    place = _number_written(row[len(PLACE_SIGN):])
    if place is None or place > MOST_PLACE or len(sheet) == MOST_PIECES:
        return False
    if not sheet:
        return True
    ahead = sheet[-1]
    return _is_last_whole(sheet) and place > ahead[0] + len(ahead[TAKES])


def _number_written(digits):
    """The number that is written so, without a sign and without a 0 ahead; None if none is or it is too long."""
    # A number of very many digits isn't read by Python, and is beyond all places.
    if not digits.isascii() or not digits.isdigit() or len(digits) > len(str(MOST_PLACE)):
        return None
    number = int(digits)
    if str(number) != digits:
        return None
    return number


def _part_of(row):
    """The number of the part of a piece to which the row adds a line, by its sign; None if it has none."""
    if row == "" or row[0] not in SIGNS:
        return None
    return SIGNS.index(row[0]) + 1


def _most_lines(part):
    """How many lines the part of a piece may have."""
    if part == AHEAD or part == BEHIND:
        return MOST_AROUND
    return MOST_PIECE_LINES


def _add_row(sheet, row):
    """Add the row, which can follow, to the sheet."""
    part = _part_of(row)
    if part is None:
        sheet.append((_number_written(row[len(PLACE_SIGN):]), [], [], [], []))
    else:
        sheet[-1][part].append(row[1:])
