"""Where a sheet's pieces are laid; nothing here refuses, and pages may be longer than those handed in."""

from patchlay.places import how_many_stand, least_levels


def spots_on(page, sheet, level):
    """For each piece of the sheet, laid up to the level: its place and level, or None if it is refused."""
    spots = []
    further = 0
    lowest = 0
    for piece in sheet:
        spot = _spot_of(page, piece, level, lowest, piece[0] + further)
        spots.append(spot)
        if spot is not None:
            further = spot[0] - piece[0]
            lowest = _lowest_behind(piece, spot)
    return spots


def change_of(sheet, spots):
    """The change that the laid pieces are, at their places."""
    change = []
    for piece, spot in zip(sheet, spots):
        if spot is not None:
            change.append((spot[0], list(piece[2]), list(piece[3])))
    return change


def lacking_of(page, sheet, level, spots):
    """For each refused piece: of each place where it may lie, the number of its first line that doesn't stand."""
    lacking = []
    lowest = 0
    for piece, spot in zip(sheet, spots):
        if spot is None:
            lacking.append(_lacks(page, piece, level, lowest))
        else:
            lowest = _lowest_behind(piece, spot)
    return lacking


def _lowest_behind(piece, spot):
    """The lowest place where the next piece may lie, behind one that is laid."""
    return spot[0] + len(piece[2]) + 1


def _spot_of(page, piece, level, lowest, due):
    """The place and level at which the piece is laid, from the lowest place on, or None."""
    levels = least_levels(page, piece)
    ways = [
        (levels[place], abs(place - due), -place)
        for place in range(lowest, len(page) + 1)
        if levels[place] is not None and levels[place] <= level
    ]
    best = min(ways, default=None)
    if best is None:
        return None
    return -best[2], best[0]


def _lacks(page, piece, level, lowest):
    """The pairs of each place with room, from the lowest on, and the first line that doesn't stand there."""
    _, ahead, takes, _, behind = piece
    ahead_left = ahead[level:]
    lines = ahead_left + takes + behind[:max(0, len(behind) - level)]
    counts = how_many_stand(lines, page)
    pairs = []
    for place in range(lowest, len(page) - len(takes) + 1):
        start = place - len(ahead_left)
        # Ahead of the page no line stands, so the first one lacks.
        pairs.append((place, counts[start] if start >= 0 else 0))
    return pairs
