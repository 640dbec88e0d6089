"""Two changes: one behind the other, side by side, exchanged."""

from patchlay.answers import Both, Quarrel
from patchlay.errors import Clash
from patchlay.kinds import check_change
from patchlay.pieces import end_of, growth_ahead, moved, replaced, turned_about


def behind(one, other):
    """A change that does as the one and then the other; refused as Clash if the other can't follow."""
    check_change(one)
    check_change(other)
    # Numbers stand for the lines of a page that isn't known; the last one is beyond all that the changes take or put.
    many = _last_end(one) + _last_end(other) + 1
    between = replaced(list(range(many)), one)
    clash = _first_clash(between, other)
    if clash is not None:
        piece, line = clash
        raise Clash(piece, line)
    return _change_to(replaced(between, other), _lines_taken(one, other, between))


def beside(one, other):
    """Both changes as each is when the other was done, or the Quarrel of their pieces."""
    check_change(one)
    check_change(other)
    pairs = _quarrelling(one, other)
    if pairs:
        return Quarrel(pairs)
    return Both(_as_past(other, one), _as_past(one, other))


def merged(one, other):
    """The one change that does both, or None if they quarrel."""
    check_change(one)
    check_change(other)
    if _quarrelling(one, other):
        return None
    pieces = one + [piece for piece in other if piece not in one]
    in_order = sorted(pieces, key=lambda part: part[0])
    return [moved(piece, 0) for piece in in_order]


def exchanged(one, other):
    """The other as it is ahead and the one as it is behind it, or None if a piece meets what was put."""
    check_change(one)
    check_change(other)
    back = turned_about(one)
    if any(_meet(piece, put) for piece in other for put in back):
        return None
    ahead = [moved(piece, growth_ahead(back, piece[0])) for piece in other]
    return ahead, [moved(piece, growth_ahead(ahead, piece[0])) for piece in one]


def _last_end(change):
    """The end of the last piece, 0 if there is none."""
    if not change:
        return 0
    return end_of(change[-1])


def _first_clash(between, other):
    """The numbers of the other's first piece and line that would take another line than was put, or None."""
    for at, (place, takes, _) in enumerate(other):
        for by, line in enumerate(takes):
            row = between[place + by]
            if isinstance(row, str) and row != line:
                return at, by
    return None


def _lines_taken(one, other, between):
    """Of each number of a first line that is taken by one of both: the line."""
    taken = {}
    for place, takes, _ in one:
        for by, line in enumerate(takes):
            taken[place + by] = line
    for place, takes, _ in other:
        for by, line in enumerate(takes):
            row = between[place + by]
            if not isinstance(row, str):
                taken[row] = line
    return taken


def _change_to(rows, taken):
    """The change to rows in which each number is a line that stays, and the last one is such."""
    change = []
    place = 0
    puts = []
    for row in rows:
        if isinstance(row, str):
            puts.append(row)
        else:
            takes = [taken[number] for number in range(place, row)]
            if takes or puts:
                change.append((place, takes, puts))
            place = row + 1
            puts = []
    return change


def _meet(piece, against):
    """Whether neither's place is above the other's end."""
    return piece[0] <= end_of(against) and against[0] <= end_of(piece)


def _quarrelling(one, other):
    """The pairs of numbers of pieces that meet and aren't alike, in order."""
    return [
        (at, by)
        for at, piece in enumerate(one)
        for by, against in enumerate(other)
        if _meet(piece, against) and piece != against
    ]


def _as_past(change, past):
    """The change as it is when the past one was done, without the pieces that were done by it."""
    return [moved(piece, growth_ahead(past, piece[0])) for piece in change if piece not in past]
