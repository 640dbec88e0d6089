"""What pieces and changes are asked for; nothing here refuses, and changes may be longer than those handed in."""


def end_of(piece):
    """The number behind the last line that the piece takes."""
    return piece[0] + len(piece[1])


def growth_of(piece):
    """How many more lines the piece puts than it takes."""
    return len(piece[2]) - len(piece[1])


def growth_ahead(change, number):
    """How much further a line or place stands for the pieces whose end is at most its number."""
    return sum(growth_of(piece) for piece in change if end_of(piece) <= number)


def moved(piece, by):
    """The same piece, so many lines further."""
    place, takes, puts = piece
    return place + by, list(takes), list(puts)


def turned_about(change):
    """The change that takes what this one puts, where it stands once this one is done."""
    told = []
    shift = 0
    for place, takes, puts in change:
        told.append((place + shift, list(puts), list(takes)))
        shift += len(puts) - len(takes)
    return told


def first_missing(page, piece):
    """The number of the piece's first taken line that doesn't stand in the page; None if the piece fits."""
    place, takes, _ = piece
    # A piece that takes nothing can fail by its place alone; that counts as line 0, as a first taken line does.
    if place > len(page):
        return 0
    for at, line in enumerate(takes):
        if place + at >= len(page) or page[place + at] != line:
            return at
    return None


def first_unfit(page, change):
    """The numbers of the first piece that doesn't fit and of its line; None if the change fits."""
    for at, piece in enumerate(change):
        line = first_missing(page, piece)
        if line is not None:
            return at, line
    return None


def replaced(page, change):
    """The page with the lines replaced that the pieces take, whatever those lines are."""
    told = []
    at = 0
    for place, takes, puts in change:
        told.extend(page[at:place])
        told.extend(puts)
        at = place + len(takes)
    told.extend(page[at:])
    return told
