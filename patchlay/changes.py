"""One change: done on a page, asked where lines go, turned about."""

from patchlay.kinds import check_change, check_fits, check_number, check_page
from patchlay.pieces import end_of, first_unfit, growth_ahead, replaced, turned_about

MOST_LINE_NUMBER = 9999


def done(page, change):
    """The page with the change done; refused as NotFitting if the change doesn't fit it."""
    check_page(page)
    check_change(change)
    check_fits(page, change)
    return replaced(page, change)


def fits(page, change):
    """Whether the change fits the page."""
    check_page(page)
    check_change(change)
    return first_unfit(page, change) is None


def now_at(change, number):
    """The number at which the line of that number stands once the change is done; None if it is taken."""
    check_change(change)
    check_number(number, MOST_LINE_NUMBER)
    if any(piece[0] <= number < end_of(piece) for piece in change):
        return None
    return number + growth_ahead(change, number)


def turned(change):
    """The change that undoes this one."""
    check_change(change)
    return turned_about(change)
