"""What is a line, a page, a change, a sheet or a number, and the refusal of what is none."""

from patchlay.errors import BadChange, BadNumber, BadPage, BadSheet, NotFitting
from patchlay.pieces import end_of, first_unfit

MOST_PAGE_LINES = 2000
MOST_PLACE = 2000
MOST_PIECE_LINES = 500
MOST_PIECES = 500
MOST_AROUND = 9
MOST_LEVEL = 9


def is_number(value):
    """Whether it is a whole number; a truth is none."""
    return isinstance(value, int) and not isinstance(value, bool)


def is_line(value):
    """Whether it is a text of signs from the blank to `~`."""
    # Of the ASCII signs just these can be printed.
    return isinstance(value, str) and value.isascii() and value.isprintable()


def are_lines(value):
    """Whether it is a list of lines, any many."""
    return isinstance(value, list) and all(is_line(line) for line in value)


def is_page(value):
    """Whether it is a page, as one is handed in."""
    return are_lines(value) and len(value) <= MOST_PAGE_LINES


def is_piece(value):
    """Whether it is a piece, any long and anywhere from 0 on."""
    if not isinstance(value, tuple) or len(value) != 3:
        return False
    place, takes, puts = value
    if not is_number(place) or place < 0:
        return False
    return are_lines(takes) and are_lines(puts) and len(takes) + len(puts) > 0


def are_apart(pieces):
    """Whether the place of each next piece is above the end of the one ahead."""
    for ahead, piece in zip(pieces, pieces[1:]):
        if piece[0] <= end_of(ahead):
            return False
    return True


def is_told_change(value):
    """Whether it is a change, any long: what is told may go beyond what may be handed in."""
    return isinstance(value, list) and all(is_piece(piece) for piece in value) and are_apart(value)


def is_within_bounds(piece):
    """Whether a piece is no longer and no further than one that is handed in may be."""
    place, takes, puts = piece
    return place <= MOST_PLACE and len(takes) <= MOST_PIECE_LINES and len(puts) <= MOST_PIECE_LINES


def is_change(value):
    """Whether it is a change, as one is handed in."""
    if not is_told_change(value) or len(value) > MOST_PIECES:
        return False
    return all(is_within_bounds(piece) for piece in value)


def are_lines_around(value):
    """Whether it is a list of as many lines as may stand ahead of a sheet's piece, or behind it."""
    return are_lines(value) and len(value) <= MOST_AROUND


def has_lines_around(value):
    """Whether it is a tuple of five whose second and last ones are lines around."""
    if not isinstance(value, tuple) or len(value) != 5:
        return False
    return are_lines_around(value[1]) and are_lines_around(value[4])


def is_sheet(value):
    """Whether it is a sheet: a change when the lines around are left out."""
    if not isinstance(value, list) or not all(has_lines_around(piece) for piece in value):
        return False
    return is_change([(place, takes, puts) for place, _, takes, puts, _ in value])


def check_page(value):
    """Refuse what is no page."""
    if not is_page(value):
        raise BadPage("a page is a list of at most 2000 lines")


def check_change(value):
    """Refuse what is no change."""
    if not is_change(value):
        raise BadChange("a change is a list of at most 500 pieces, each next one above the end of the one ahead")


def check_sheet(value):
    """Refuse what is no sheet."""
    if not is_sheet(value):
        raise BadSheet("a sheet is a list of pieces with at most 9 lines ahead and behind, else a change")


def check_number(value, most):
    """Refuse what is no number from 0 to the most."""
    if not is_number(value) or value < 0 or value > most:
        raise BadNumber(f"a number from 0 to {most} is asked for")


def check_fits(page, change):
    """Refuse a change that doesn't fit the page."""
    unfit = first_unfit(page, change)
    if unfit is not None:
        piece, line = unfit
        raise NotFitting(piece, line)
