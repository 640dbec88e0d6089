"""The change of the fewest lines from one page to another."""

from patchlay.answers import Made
from patchlay.errors import BadNumber
from patchlay.kinds import check_page

MOST_LINES_MADE = 40


def made(old, new):
    """A change of the fewest lines from the old page to the new one, and heights that show it."""
    check_page(old)
    check_page(new)
    if len(old) > MOST_LINES_MADE or len(new) > MOST_LINES_MADE:
        raise BadNumber("a change is made of pages of at most 40 lines")
    heights = _fewest_lines(old, new)
    return Made(_change_between(_lines_kept(heights, old, new), old, new), heights)


def _fewest_lines(old, new):
    """For each many of either page's lines: how few lines can be taken and put."""
    heights = [list(range(len(new) + 1))]
    for line in old:
        heights.append(_next_row(heights[-1], line, new))
    return heights


def _next_row(row, line, new):
    """The row for one more line of the old page."""
    told = [row[0] + 1]
    for at, other in enumerate(new):
        if line == other:
            # To keep a line that is the next one of both pages never costs more.
            told.append(row[at])
        else:
            told.append(min(row[at + 1], told[at]) + 1)
    return told


def _lines_kept(heights, old, new):
    """The pairs of numbers of lines that stay, of the old page and of the new one."""
    kept = []
    i = len(old)
    j = len(new)
    while i > 0 and j > 0:
        if old[i - 1] == new[j - 1]:
            i -= 1
            j -= 1
            kept.append((i, j))
        elif heights[i - 1][j] < heights[i][j]:
            i -= 1
        else:
            j -= 1
    return kept[::-1]


def _change_between(kept, old, new):
    """The change that takes and puts all lines but those kept."""
    change = []
    place = 0
    put = 0
    for i, j in kept + [(len(old), len(new))]:
        if i > place or j > put:
            change.append((place, old[place:i], new[put:j]))
        place = i + 1
        put = j + 1
    return change
