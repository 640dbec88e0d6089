"""All small pages and changes, and slow ways to tell what the program tells."""

from itertools import product


def pages(signs, most):
    """All pages of at most so many lines, each one of the signs."""
    return [list(lines) for many in range(most + 1) for lines in product(signs, repeat=many)]


def changes(page, options):
    """All changes that fit the page and put one of the options wherever they put."""
    told = []
    for kept in product((True, False), repeat=len(page)):
        stands = [at for at, keep in enumerate(kept) if keep]
        for puts in product(options, repeat=len(stands) + 1):
            told.append(_change(page, stands, puts))
    return told


def _change(page, stands, puts):
    change = []
    place = 0
    for stand, put in zip(stands + [len(page)], puts):
        if stand > place or put:
            change.append((place, list(page[place:stand]), list(put)))
        place = stand + 1
    return change


def slow_done(page, change):
    """The page with the change done from behind, so that no place moves."""
    page = list(page)
    for place, takes, puts in reversed(change):
        assert page[place:place + len(takes)] == takes and place <= len(page)
        page[place:place + len(takes)] = puts
    return page


def lines_of(changes_, at):
    """All lines that the changes take (at 1) or put (at 2), sorted."""
    return sorted(line for change in changes_ for piece in change for line in piece[at])


def is_within(few, many):
    """Whether each line of the few is one of the many, as often as there."""
    return all(few.count(line) <= many.count(line) for line in set(few))


def is_valid(change):
    """Whether it is a change, lengths aside."""
    if type(change) is not list:
        return False
    last = -1
    for piece in change:
        if type(piece) is not tuple or len(piece) != 3:
            return False
        place, takes, puts = piece
        if type(place) is not int or type(takes) is not list or type(puts) is not list:
            return False
        if place <= last or not (takes or puts):
            return False
        last = place + len(takes)
    return True


def lists_in(value):
    """All lists within a value, itself too."""
    told = [value] if isinstance(value, list) else []
    if isinstance(value, (list, tuple)):
        for part in value:
            told += lists_in(part)
    return told


def share_lists(*values):
    """Whether some list stands in two places of the values."""
    seen = [id(part) for value in values for part in lists_in(value)]
    return len(seen) != len(set(seen))


def slow_heights(old, new):
    """The fewest lines taken and put, for each many of the lines of both pages."""
    heights = [[0] * (len(new) + 1) for _ in range(len(old) + 1)]
    for i in range(len(old) + 1):
        for j in range(len(new) + 1):
            ways = [0] if i == j == 0 else []
            if i:
                ways.append(heights[i - 1][j] + 1)
            if j:
                ways.append(heights[i][j - 1] + 1)
            if i and j and old[i - 1] == new[j - 1]:
                ways.append(heights[i - 1][j - 1])
            heights[i][j] = min(ways)
    return heights


def slow_fit(page, piece, place):
    """Whether the sheet's piece fits the place of the page with all lines around."""
    _, ahead, takes, _, after = piece
    lines = ahead + takes + after
    start = place - len(ahead)
    if start < 0 or place > len(page):
        return False
    return page[start:start + len(lines)] == lines


def slow_most(page, sheet):
    """The places and the marks of a Most, by all ways to leave pieces out."""
    ways = [[(-1, ())]]
    for piece in sheet:
        further = []
        for end, places in ways[-1]:
            further.append((end, places + (None,)))
            for place in range(end + 1, len(page) + 1):
                if slow_fit(page, piece, place):
                    further.append((place + len(piece[2]), places + (place,)))
        ways.append(further)
    best = max(ways[-1], key=lambda way: placed(way[1]))[1]
    marks = []
    for row in ways:
        marks.append([
            min((end for end, places in row if placed(places) == count), default=None)
            for count in range(placed(best) + 2)
        ])
    return list(best), marks


def placed(places):
    """How many places are none of None."""
    return len([place for place in places if place is not None])
