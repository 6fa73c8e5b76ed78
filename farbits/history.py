"""What objects hold, and what they held before each change."""

from farbits.errors import NothingToUndo


class Log:
    """The content of an object, with what is needed to take its changes back.

    A moment is a tuple (content, the moment before it, how many there are before it).
    It never changes, so a moment that is put back brings back all that could be taken
    back from it.
    """

    def __init__(self, content):
        self.now = (content, None, 0)

    def content(self):
        """What the object holds now."""
        return self.now[0]

    def many_before(self):
        """How many changes can be taken back."""
        return self.now[2]

    def go_on(self, content):
        """Puts a new content in place, which can be taken back."""
        self.now = (content, self.now, self.now[2] + 1)

    def go_back(self):
        """Takes the last change back."""
        if self.now[1] is None:
            raise NothingToUndo()
        self.now = self.now[1]

    def attempted(self, owner, action):
        """What an action gives; if it raises an error, this moment comes back."""
        before = self.now
        behind = before
        try:
            result = action(owner)
            behind = self.now
        finally:
            self.now = behind
        return result

    def explored(self, owner, action):
        """What an action gives; this moment comes back in any case."""
        before = self.now
        try:
            result = action(owner)
        finally:
            self.now = before
        return result

    def twin(self):
        """A new log of the same moment."""
        log = Log(None)
        log.now = self.now
        return log
