"""A page, and deeds on it that can be taken back and done again."""

from patchlay.errors import NoDeed, TooFew
from patchlay.kinds import MOST_LEVEL, check_change, check_fits, check_number, check_page, check_sheet
from patchlay.laying import change_of, spots_on
from patchlay.pieces import replaced, turned_about


class Bench:
    """A page that tells of each line which deed that stands has put it."""

    def __init__(self, page=None):
        if page is None:
            page = []
        check_page(page)
        # Each line with the number of the deed that has put it, so that one taken back brings both back.
        self._rows = [(line, None) for line in page]
        # The deeds are changes of such rows; those taken back stand last one first.
        self._deeds = []
        self._undone = []

    def page(self):
        """The page as it is now."""
        return [line for line, _ in self._rows]

    def whence(self):
        """For each line the number of the deed that has put it, or None if it was there at first."""
        return [deed for _, deed in self._rows]

    def times(self):
        """How many deeds stand."""
        return len(self._deeds)

    def do(self, change):
        """Do the change; the page then."""
        check_change(change)
        check_fits(self.page(), change)
        return self._follow_with(change)

    def lay(self, sheet, level=0):
        """Lay the sheet, up to the level; the page then. Refused as TooFew if a piece is."""
        check_sheet(sheet)
        check_number(level, MOST_LEVEL)
        spots = spots_on(self.page(), sheet, level)
        refused = [at for at, spot in enumerate(spots) if spot is None]
        if refused:
            raise TooFew(refused)
        return self._follow_with(change_of(sheet, spots))

    def undo(self):
        """Take the last deed back; the page then."""
        if not self._deeds:
            raise NoDeed("there is no deed to take back")
        deed = self._deeds.pop()
        self._undone.append(deed)
        return self._do_on_rows(turned_about(deed))

    def redo(self):
        """Do the deed again that was taken back last; the page then."""
        if not self._undone:
            raise NoDeed("there is no deed to do again")
        deed = self._undone.pop()
        self._deeds.append(deed)
        return self._do_on_rows(deed)

    def _follow_with(self, change):
        """Do a change that fits as the next deed; the page then."""
        number = len(self._deeds)
        deed = []
        for place, takes, puts in change:
            taken = self._rows[place:place + len(takes)]
            deed.append((place, taken, [(line, number) for line in puts]))
        self._deeds.append(deed)
        self._undone = []
        return self._do_on_rows(deed)

    def _do_on_rows(self, deed):
        """Replace the rows that the deed takes; the page then."""
        self._rows = replaced(self._rows, deed)
        return self.page()
