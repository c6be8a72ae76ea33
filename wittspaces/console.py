"""A console that keeps definitions and entries (point 11.4)."""

from wittspaces.errors import Refused
from wittspaces.log import write_log
from wittspaces.replies import defined, reply_to


class Console:
    """Definitions and entries; at most `most` lines may be entered."""

    def __init__(self, *, most=500):
        self._most = most
        self._entries = []
        self._names = {}

    def __len__(self):
        return len(self._entries)

    def enter(self, line):
        """Enters a line and returns the reply."""
        if len(self._entries) >= self._most:
            raise Refused("lines")
        reply = reply_to(self._names, line)
        found = defined(self._names, line)
        self._entries.append((line, reply))
        if found is not None:
            self._names[found[0]] = found[1]
        return reply

    def entries(self):
        """The tuple of the entries."""
        return tuple(self._entries)

    def names(self):
        """A new dict from the defined names to their spaces."""
        return dict(self._names)

    def log(self):
        """The written form of the entries."""
        return write_log(self._entries)
