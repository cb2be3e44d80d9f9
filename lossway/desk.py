"""A desk: a world that is led step by step, with undo and redo."""

from lossway.deeds import do_deed, kept_deed
from lossway.errors import LossError, NothingLeft, Stopped
from lossway.net import require_side
from lossway.world import World


class Desk:
    """A world, the deeds that led it to where it is, and those that were taken back."""

    def __init__(self, first, second, *, copies=2, girth=1400):
        self.first = first
        self.second = second
        self.copies = copies
        self.girth = girth
        self.world = World(first, second, copies=copies, girth=girth)
        self._deeds = []
        # The one that was taken back last stands last.
        self._undone = []

    def __len__(self):
        return len(self._deeds)

    def do(self, deed):
        """Do a deed and return its result."""
        kept = kept_deed(deed)
        result = do_deed(self.world, kept)
        self._deeds.append(kept)
        self._undone = []
        return result

    def undo(self):
        """Take the last deed back and return it."""
        if len(self._deeds) == 0:
            raise NothingLeft()
        deed = self._deeds.pop()
        self._undone.append(deed)
        self.world = self.twin().world
        return deed

    def redo(self):
        """Do the deed again that was taken back last, and return it."""
        if len(self._undone) == 0:
            raise NothingLeft()
        deed = self._undone[-1]
        do_deed(self.world, deed)
        self._deeds.append(self._undone.pop())
        return deed

    def deeds(self):
        """The deeds that were done."""
        return list(self._deeds)

    def do_all(self, deeds):
        """Do all deeds of a sequence, or none of them, and return their results."""
        # The world cannot be led back, so the deeds are first done where nobody sees it.
        self.twin()._do_each(deeds)
        return self._do_each(deeds)

    def trial(self, deeds):
        """The results that the deeds would have."""
        other = self.twin()
        return [other.do(deed) for deed in deeds]

    def twin(self):
        """Another desk with the same deeds, done and taken back."""
        made = self._blank(self.first, self.second)
        made._do_each(self._deeds)
        made._undone = list(self._undone)
        return made

    def what_if(self, side, **choices):
        """Another desk with the same deeds, in which one side has changed settings."""
        require_side(side)
        first = self.first
        second = self.second
        if side == 0:
            first = first.changed(**choices)
        else:
            second = second.changed(**choices)
        made = self._blank(first, second)
        made._do_each(self._deeds)
        return made

    def _blank(self, first, second):
        """Another desk without deeds."""
        return Desk(first, second, copies=self.copies, girth=self.girth)

    def _do_each(self, deeds):
        """Do deeds and return their results; raises Stopped at the first one that raises an error."""
        results = []
        for place, deed in enumerate(deeds):
            try:
                results.append(self.do(deed))
            except LossError as e:
                raise Stopped(place) from e
        return results
