"""Offices kept under names, and what was kept ahead of each change."""

from falsedays.errors import NoName, NothingDone


class Shelf:
    """The offices that are kept, by their names.

    elders: for each change that can be taken back its name and the office that was kept under it ahead, or None.
    """

    def __init__(self):
        self.offices = {}
        self.elders = []

    def named(self, name):
        """The office under a name."""
        if name not in self.offices:
            raise NoName(name)
        return self.offices[name]

    def keep(self, name, office):
        """Keeps an office under a name, in the place of an elder one."""
        self.elders.append((name, self.offices.get(name)))
        self.offices[name] = office

    def drop(self, name):
        """Keeps the office under a name no more."""
        self.elders.append((name, self.named(name)))
        del self.offices[name]

    def undo(self):
        """Takes back the last change that is not taken back."""
        if not self.elders:
            raise NothingDone()
        name, elder = self.elders.pop()
        if elder is None:
            del self.offices[name]
        else:
            self.offices[name] = elder
