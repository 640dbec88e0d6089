"""Where lines stand in a page, and where a sheet's piece fits one."""


def how_many_stand(lines, page):
    """For each place of the page, its end too: how many of the lines stand there in turn, till one doesn't."""
    # None, which is no line, keeps a match from going on from the lines into the page.
    rows = lines + [None] + page
    counts = [0] * len(rows)
    # rows[left:right] is like the beginning, and reaches furthest: what is known of the beginning holds in it.
    left = 0
    right = 0
    for at in range(1, len(rows)):
        many = 0
        if at < right:
            many = min(right - at, counts[at - left])
        while at + many < len(rows) and rows[many] == rows[at + many]:
            many += 1
        counts[at] = many
        if at + many > right:
            left = at
            right = at + many
    return counts[len(lines) + 1:] + [0]


def next_places(page, piece):
    """For each place of the page, its end too: the least place from it on where the piece fits with all lines around.

    None stands where there is no such place.
    """
    _, ahead, takes, _, behind = piece
    lines = ahead + takes + behind
    counts = how_many_stand(lines, page)
    places = [None] * (len(page) + 1)
    least = None
    for at in reversed(range(len(page) + 1)):
        if at >= len(ahead) and counts[at - len(ahead)] == len(lines):
            least = at
        places[at] = least
    return places


def stands_around(page, piece):
    """For each place of the page, its end too: how many lines ahead and behind stand there, from the piece on.

    None stands where what the piece takes doesn't stand.
    """
    _, ahead, takes, _, behind = piece
    # Read backward, the lines ahead begin with the one next to the piece.
    backward = how_many_stand(ahead[::-1], page[::-1])[::-1]
    forward = how_many_stand(takes + behind, page)
    return [
        (back, many - len(takes)) if many >= len(takes) else None
        for back, many in zip(backward, forward)
    ]


def least_levels(page, piece):
    """For each place of the page, its end too: the least level at which the piece fits; None if at none."""
    return [
        None if stand is None else max(len(piece[1]) - stand[0], len(piece[4]) - stand[1])
        for stand in stands_around(page, piece)
    ]
