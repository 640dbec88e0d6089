"""All small pages and changes, and slow ways to tell what the program tells."""

from itertools import product


def pages(signs, most):
    """All pages of at most so many lines, each one of the signs."""
    return [list(lines) for many in range(most + 1) for lines in product(signs, repeat=many)]


def changes(page, options):
    """All changes that fit the page and put one of the options wherever they put."""
    told = []
    for kept in product((True, False), repeat=len(page)):
        stands = [at for at, keep in enumerate(kept) if keep]
        for puts in product(options, repeat=len(stands) + 1):
            told.append(_change(page, stands, puts))
    return told


def _change(page, stands, puts):
    change = []
    place = 0
    for stand, put in zip(stands + [len(page)], puts):
        if stand > place or put:
            change.append((place, list(page[place:stand]), list(put)))
        place = stand + 1
    return change


def slow_done(page, change):
    """The page with the change done from behind, so that no place moves."""
    page = list(page)
    for place, takes, puts in reversed(change):
        assert page[place:place + len(takes)] == takes and place <= len(page)
        page[place:place + len(takes)] = puts
    return page


def lines_of(changes_, at):
    """All lines that the changes take (at 1) or put (at 2), sorted."""
    return sorted(line for change in changes_ for piece in change for line in piece[at])


def is_within(few, many):
    """Whether each line of the few is one of the many, as often as there."""
    return all(few.count(line) <= many.count(line) for line in set(few))


def is_valid(change):
    """Whether it is a change, lengths aside."""
    if type(change) is not list:
        return False
    last = -1
    for piece in change:
        if type(piece) is not tuple or len(piece) != 3:
            return False
        place, takes, puts = piece
        if type(place) is not int or type(takes) is not list or type(puts) is not list:
            return False
        if place <= last or not (takes or puts):
            return False
        last = place + len(takes)
    return True


def lists_in(value):
    """All lists within a value, itself too."""
    told = [value] if isinstance(value, list) else []
    if isinstance(value, (list, tuple)):
        for part in value:
            told += lists_in(part)
    return told


def share_lists(*values):
    """Whether some list stands in two places of the values."""
    seen = [id(part) for value in values for part in lists_in(value)]
    return len(seen) != len(set(seen))


def is_own(told, *given):
    """Whether no list stands twice in what is told, and none of it in what was handed in."""
    handed = {id(part) for value in given for part in lists_in(value)}
    return not share_lists(told) and not any(id(part) in handed for part in lists_in(told))


def slow_heights(old, new):
    """The fewest lines taken and put, for each many of the lines of both pages."""
    heights = [[0] * (len(new) + 1) for _ in range(len(old) + 1)]
    for i in range(len(old) + 1):
        for j in range(len(new) + 1):
            ways = [0] if i == j == 0 else []
            if i:
                ways.append(heights[i - 1][j] + 1)
            if j:
                ways.append(heights[i][j - 1] + 1)
            if i and j and old[i - 1] == new[j - 1]:
                ways.append(heights[i - 1][j - 1])
            heights[i][j] = min(ways)
    return heights


def slow_fit(page, piece, place):
    """Whether the sheet's piece fits the place of the page with all lines around."""
    _, ahead, takes, _, after = piece
    lines = ahead + takes + after
    start = place - len(ahead)
    if start < 0 or place > len(page):
        return False
    return page[start:start + len(lines)] == lines


def slow_most(page, sheet):
    """The places and the marks of a Most, by all ways to leave pieces out."""
    ways = [[(-1, ())]]
    for piece in sheet:
        further = []
        for end, places in ways[-1]:
            further.append((end, places + (None,)))
            for place in range(end + 1, len(page) + 1):
                if slow_fit(page, piece, place):
                    further.append((place + len(piece[2]), places + (place,)))
        ways.append(further)
    best = max(ways[-1], key=lambda way: placed(way[1]))[1]
    marks = []
    for row in ways:
        marks.append([
            min((end for end, places in row if placed(places) == count), default=None)
            for count in range(placed(best) + 2)
        ])
    return list(best), marks


def at_level(piece, level):
    """The sheet's piece with as many lines around fewer as the level says, the outermost ones left out."""
    place, ahead, takes, puts, after = piece
    for _ in range(level):
        ahead = ahead[1:]
        after = after[:-1]
    return place, ahead, takes, puts, after


def slow_spots(page, sheet, level):
    """The spots and what the refused pieces lack, place by place and line by line."""
    spots = []
    lacking = []
    last = None
    for piece in sheet:
        low = 0 if last is None else last[1] + len(last[0][2]) + 1
        due = piece[0] if last is None else piece[0] + last[1] - last[0][0]
        spot = None
        for height in range(level + 1):
            fitting = [place for place in range(low, len(page) + 1) if slow_fit(page, at_level(piece, height), place)]
            if fitting:
                near = min(abs(place - due) for place in fitting)
                spot = (max(place for place in fitting if abs(place - due) == near), height)
                break
        spots.append(spot)
        if spot is None:
            lacking.append([(place, first_lack(page, at_level(piece, level), place))
                            for place in range(low, len(page) + 1) if place + len(piece[2]) <= len(page)])
        else:
            last = (piece, spot[0])
    return spots, lacking


def first_lack(page, piece, place):
    """The number of the first line of the sheet's piece that doesn't stand where it should."""
    stands = dict(enumerate(page))
    for at, line in enumerate(piece[1] + piece[2] + piece[4]):
        if stands.get(place - len(piece[1]) + at) != line:
            return at
    return None


def slow_around(page, change, many):
    """The sheet of a change, line by line outward from each piece."""
    ends = [place + len(takes) for place, takes, _ in change]
    sheet = []
    for at, (place, takes, puts) in enumerate(change):
        ahead, after = [], []
        for number in range(place - 1, -1, -1):
            if len(ahead) < many and not (at > 0 and number < ends[at - 1]):
                ahead.insert(0, page[number])
        for number in range(ends[at], len(page)):
            if len(after) < many and not (at + 1 < len(change) and number >= change[at + 1][0]):
                after.append(page[number])
        sheet.append((place, ahead, list(takes), list(puts), after))
    return sheet


def placed(places):
    """How many places are none of None."""
    return len([place for place in places if place is not None])
