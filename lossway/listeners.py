"""Listeners: the ports at which a station answers openings."""


class Listener:
    """The connections of one port that no user has accepted yet, by their handles."""

    def __init__(self, backlog):
        self.backlog = backlog
        self.waiting = []
        # In the order in which they became ready, while those that wait have the order of their handles.
        self.readied = []

    def drop(self, handle):
        """Forget a connection."""
        if handle in self.waiting:
            self.waiting.remove(handle)
        if handle in self.readied:
            self.readied.remove(handle)

    def copied(self):
        """Another listener with the same connections."""
        made = Listener(self.backlog)
        made.waiting = list(self.waiting)
        made.readied = list(self.readied)
        return made
