"""Queues of a length that the plain way leaves at so many commands, by number."""

from foursfold.checks import is_below
from foursfold.errors import Refused
from foursfold.folding import put_behind
from foursfold.mergers import check_queue
from foursfold.piles import LENGTH_LIMIT, Piles, check_length


class Tellings:
    """Counts what goes on from a pile: the queues that leave so many in the end."""

    def __init__(self, rows, length, wanted):
        self.rows = rows
        self.wanted = wanted
        self.piles = Piles(rows, length)
        self.known = {}

    def behind(self, pile, many):
        """How many queues of so many commands, put to a pile, leave just so many."""
        if (pile, many) not in self.known:
            self.known[(pile, many)] = self._count(pile, many)
        return self.known[(pile, many)]

    def _count(self, pile, many):
        """The same, told by when the last command of a pile is changed first."""
        top = self.piles.floor if len(pile) == 0 else pile[-1]
        wanted = self.wanted - len(pile)
        # What is left behind a top that is never changed is at most what comes.
        total = self.piles.lefts[top][many][wanted] if 0 <= wanted <= many else 0
        for first in range(1, many + 1):
            for end, ways in self.piles.changes[top][first].items():
                further = pile[:-1] if end == -1 else self.put_to(pile[:-1], end)
                total += ways * self.behind(further, many - first)
        return total

    def put_to(self, pile, command):
        """The pile behind one command more."""
        held = list(pile)
        put_behind(self.rows, held, command)
        return tuple(held)


def left_queue(merger, length, left, number):
    """The queue of a number, of the ascending ones of a length that are left so."""
    check_length(length)
    if not is_below(left, length + 1):
        raise Refused(left)
    tellings = Tellings(merger.rows, length, left)
    if not is_below(number, tellings.behind((), length)):
        raise Refused(number)
    pile = ()
    queue = []
    for rest in range(length - 1, -1, -1):
        command, ahead = _next_command(tellings, pile, rest, number)
        queue.append(command)
        number = number - ahead
        pile = tellings.put_to(pile, command)
    return tuple(queue)


def _next_command(tellings, pile, rest, number):
    """(command, ahead): what comes behind a pile, how many queues have a lesser one."""
    ahead = 0
    command = 0
    while True:
        many = tellings.behind(tellings.put_to(pile, command), rest)
        if number < ahead + many:
            return command, ahead
        ahead += many
        command += 1


def left_place(merger, queue):
    """(left, number): how many are left of a queue, and its number among those left so."""
    commands = check_queue(merger, queue)
    if len(commands) > LENGTH_LIMIT:
        raise Refused(queue)
    # Piles along the queue; the last one is its plain fold.
    piles = [()]
    for command in commands:
        held = list(piles[-1])
        put_behind(merger.rows, held, command)
        piles.append(tuple(held))
    left = len(piles[-1])
    tellings = Tellings(merger.rows, len(commands), left)
    number = 0
    for at, command in enumerate(commands):
        for lesser in range(command):
            number += tellings.behind(tellings.put_to(piles[at], lesser), len(commands) - at - 1)
    return left, number
