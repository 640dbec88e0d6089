"""The refusals of the program, each kind a class of its own."""


class PatchError(ValueError):
    """What all refusals of the program are."""


class BadPage(PatchError):
    """What was handed in is no page."""


class BadChange(PatchError):
    """What was handed in is no change."""


class BadSheet(PatchError):
    """What was handed in is no sheet."""


class BadNumber(PatchError):
    """What was handed in is no number, or none within its limits."""


class NotFitting(PatchError):
    """A change doesn't fit a page: the first such piece, and its first line that doesn't stand there."""

    def __init__(self, piece, line):
        super().__init__(f"piece {piece} does not fit the page at its line {line}")
        self.piece = piece
        self.line = line


class Clash(PatchError):
    """A change takes another line than was put: the first such piece, and its first such line."""

    def __init__(self, piece, line):
        super().__init__(f"piece {piece} takes another line than was put at its line {line}")
        self.piece = piece
        self.line = line


class BadRows(PatchError):
    """A text is no written sheet: the first row that is none."""

    def __init__(self, row):
        super().__init__(f"row {row} is none of a sheet")
        self.row = row


class TooFew(PatchError):
    """A sheet can't be laid whole: the numbers of the pieces that are refused."""

    def __init__(self, pieces):
        super().__init__(f"pieces refused: {len(pieces)}")
        self.pieces = list(pieces)


class NoDeed(PatchError):
    """There is no deed to take back, or none to do again."""
