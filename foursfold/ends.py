"""The folded queues of one queue, told command by command."""

from foursfold.spans import NOTHING_BIT, span_table, thing_bit


class FoldedEnds:
    """What can be told of the folded queues of a queue.

    One folded queue may be told by many cuts of the queue into stretches. A
    state holds them together, so that each folded queue is told once: the
    indexes, as bits, that what was told may reach, and its last command, -1
    at first. From each state some folded queue can be told to its end.
    """

    def __init__(self, rows, queue):
        self.rows = rows
        self.many = len(queue)
        table = span_table(rows, queue)
        # By command, by index: the indexes that the command leads to.
        self.leads = [[0] * (self.many + 1) for _ in rows]
        # By command: the indexes from which, behind it, the end is reached.
        last = 1 << self.many
        ending = [last for _ in rows]
        for first in range(self.many - 1, -1, -1):
            self._look_from(table[first], first, ending)
        goes = table[0][self.many] & NOTHING_BIT
        self.start = (1 | last, -1) if goes else (1, -1)

    def _look_from(self, row, first, ending):
        """Add what is told of an index if all is told of those behind it."""
        for command in range(len(self.rows)):
            for last in range(first + 1, self.many + 1):
                if row[last] & thing_bit(command) and ending[command] >> last & 1:
                    self.leads[command][first] = self.leads[command][first] | 1 << last
        for command in range(len(self.rows)):
            for other in range(len(self.rows)):
                if self.rows[command][other] is None and self.leads[other][first]:
                    ending[command] = ending[command] | 1 << first

    def is_end(self, state):
        """Whether what was told is a folded queue."""
        return state[0] >> self.many & 1 == 1

    def further(self, state):
        """By each command that may come next, ascending, the state behind."""
        reached, before = state
        states = []
        for command, leads in enumerate(self.leads):
            if before != -1 and self.rows[before][command] is not None:
                continue
            bits = 0
            for first in range(self.many):
                if reached >> first & 1:
                    bits = bits | leads[first]
            if bits:
                states.append((command, (bits, command)))
        return states
