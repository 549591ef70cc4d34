"""A sheet, on which CHANGES are laid one by one."""

from marginwords.calling import word_of as word_in
from marginwords.changes import is_change
from marginwords.errors import NoBase
from marginwords.knowing import names_of
from marginwords.making import laid_on
from marginwords.stands import stand as stand_in
from marginwords.texts import signs as signs_in
from marginwords.texts import text as text_in


class Sheet:
    """The CHANGES that were laid on it, always a LEDGER, and the order in which they came."""

    def __init__(self):
        self.changes = ()
        self.road = ()

    def lay(self, change):
        """True where it is laid now, False where it was laid before."""
        if is_change(change):
            if change in self.changes:
                return False
            self.look_at_base(change[2])
        self.changes = laid_on(self.changes, change)
        self.road = self.road + (change[0],)
        return True

    def look_at_base(self, base):
        """Refuse a base that names a CHANGE that wasn't laid."""
        lacking = [name for name in base if name not in names_of(self.changes)]
        if lacking != []:
            raise NoBase(min(lacking))

    def names(self):
        """The NAMES of the CHANGES, in the order in which they were laid."""
        return self.road

    def ledger(self):
        """The LEDGER of all CHANGES."""
        return self.changes

    def signs(self):
        """The SIGNS of the TEXT, in their order."""
        return signs_in(self.changes)

    def text(self):
        """The letters of the SIGNS of the TEXT."""
        return text_in(self.changes)

    def stand(self, remark):
        """The STAND of a REMARK."""
        return stand_in(self.changes, remark)

    def word_of(self, remark):
        """The word of a REMARK."""
        return word_in(self.changes, remark)
