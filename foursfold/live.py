"""A queue that is edited, of which edits can be taken back."""

from foursfold.checks import QUEUE_LIMIT, is_below
from foursfold.courts import need_even
from foursfold.errors import BadQueue, Refused
from foursfold.folding import plain_fold
from foursfold.mergers import check_command, check_queue


def _check_index(at, limit):
    """Raise Refused for any value that is no index below a limit."""
    if not is_below(at, limit):
        raise Refused(at)


class Live:
    """A queue that is edited, and knows all that it was."""

    def __init__(self, merger, queue=()):
        self.merger = need_even(merger)
        self.queue = check_queue(merger, queue)
        # All queues in turn, as edits made them, and where among them this is.
        # The list is never changed, but replaced: so it can be held on to.
        self._queues = [self.queue]
        self._at = 0

    def undo(self):
        """Take the last edit back; whether there was one."""
        if self._at == 0:
            return False
        self._go_to(self._at - 1)
        return True

    def redo(self):
        """Do again the edit that was taken back last; whether there was one."""
        if self._at == len(self._queues) - 1:
            return False
        self._go_to(self._at + 1)
        return True

    def _go_to(self, at):
        """Make the queue the one that it was, or will be, after so many edits."""
        self._at = at
        self.queue = self._queues[at]

    def within(self, work):
        """What some work with this queue returns; then all is as before."""
        queue = self.queue
        queues = self._queues
        at = self._at
        try:
            return work(self)
        finally:
            self.queue, self._queues, self._at = queue, queues, at

    def put(self, command):
        """Put a command last."""
        check_command(self.merger, command)
        return self._put_at(len(self.queue), command)

    def put_amid(self, at, command):
        """Put a command ahead of the one at an index, or last."""
        _check_index(at, len(self.queue) + 1)
        check_command(self.merger, command)
        return self._put_at(at, command)

    def change_amid(self, at, command):
        """Put a command in the place of the one at an index."""
        _check_index(at, len(self.queue))
        check_command(self.merger, command)
        return self._edit(self.queue[:at] + (command,) + self.queue[at + 1:])

    def strike_amid(self, at):
        """Strike the command at an index."""
        _check_index(at, len(self.queue))
        return self._edit(self.queue[:at] + self.queue[at + 1:])

    def fold_all(self):
        """Make the queue its plain fold."""
        return self._edit(plain_fold(self.merger, self.queue))

    def left(self):
        """How many commands are left of the queue, however it is merged."""
        return len(plain_fold(self.merger, self.queue))

    def _put_at(self, at, command):
        """Put a checked command at a checked index."""
        if len(self.queue) == QUEUE_LIMIT:
            raise BadQueue(-1)
        return self._edit(self.queue[:at] + (command,) + self.queue[at:])

    def _edit(self, queue):
        """Make another queue of this one; how many commands are left of it."""
        self._queues = self._queues[:self._at + 1] + [queue]
        self._go_to(self._at + 1)
        return self.left()
