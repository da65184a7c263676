"""Senders, which send what nothing will merge with; barriers and what they cost."""

from foursfold.checks import QUEUE_LIMIT, is_below
from foursfold.costs import cost_steps
from foursfold.courts import need_even
from foursfold.errors import Refused
from foursfold.folding import plain_fold, put_behind
from foursfold.mergers import check_command
from foursfold.pushes import START, check_number
from foursfold.reaches import reach_down
from foursfold.walks import greatest_gains, walk_of


class Sender:
    """Holds what it hears, folded, and sends what is safe, or all but some."""

    def __init__(self, merger, keep=None):
        self.merger = need_even(merger)
        check_keep(keep)
        self.keep = keep
        self.held = ()
        self.sent = 0
        self.came = 0

    def put(self, command):
        """Hear a command; the commands that are sent now, first ones first."""
        check_command(self.merger, command)
        held = list(self.held)
        put_behind(self.merger.rows, held, command)
        many = self._number_to_send(held)
        self.held = tuple(held[many:])
        self.sent += many
        self.came += 1
        return tuple(held[:many])

    def _number_to_send(self, held):
        """How many of the commands that are held are to be sent."""
        if self.keep is None:
            return reach_down(self.merger.rows, held)[0]
        return max(0, len(held) - self.keep)


def check_keep(keep):
    """Raise Refused for any value that is neither None nor a number to 10,000."""
    if keep is not None and not is_below(keep, QUEUE_LIMIT + 1):
        raise Refused(keep)


def sender_loss(merger, queue, keep=None):
    """How many commands more a sender ends with than need be."""
    left = plain_fold(need_even(merger), queue)
    sender = Sender(merger, keep)
    for command in queue:
        sender.put(command)
    return sender.sent + len(sender.held) - len(left)


def split_cost(merger, one, other):
    """How many commands more are left if a barrier stands between two queues."""
    ahead = plain_fold(need_even(merger), one)
    behind = plain_fold(merger, other)
    held = list(ahead)
    for command in behind:
        put_behind(merger.rows, held, command)
    return len(ahead) + len(behind) - len(held)


def most_cost(merger):
    """The greatest cost of a barrier, None if there is no greatest."""
    return greatest_gains(cost_steps(need_even(merger).rows)).get(START)


def dear_split(merger, number):
    """Some two folded queues between which a barrier costs so much, or None."""
    need_even(merger)
    check_number(number, 1)
    return walk_of(cost_steps(merger.rows), START, number)
