"""How many queues the plain way leaves at how many commands."""

from math import gcd

from foursfold.checks import is_below
from foursfold.errors import Refused

LENGTH_LIMIT = 40


class Piles:
    """Numbers of queues that do this or that to the end of a pile.

    Behind each command, and behind the floor, the last number: by how many
    commands come, changes tells how many queues change it for the first time
    with their last command, by what it becomes, -1 for nothing; stands how
    many bring with their last command something to stand right behind it;
    lefts how many never change it and leave so many behind it.
    """

    def __init__(self, rows, length):
        floor = (None,) * len(rows)
        self.rows = tuple(rows) + (floor,)
        self.floor = len(rows)
        tops = list(range(len(self.rows)))
        self.changes = [[{}] for _ in tops]
        self.stands = [[{}] for _ in tops]
        self.lefts = [[[1]] for _ in tops]
        for many in range(1, length + 1):
            for top in tops:
                self._count(top, many)

    def _count(self, top, many):
        """Tell all of a top and so many commands; all of fewer ones is told."""
        arrivals = self._arrivals(top, many)
        changes = {}
        stands = {}
        for command, end in enumerate(self.rows[top]):
            if end is None:
                stands[command] = arrivals[command]
            else:
                changes[end] = changes.get(end, 0) + arrivals[command]
        self.changes[top].append(changes)
        self.stands[top].append(stands)
        self.lefts[top].append(self._lefts_behind(top, many, arrivals[-1]))

    def _arrivals(self, top, many):
        """By what comes right behind a top with the last of so many commands: how often."""
        before = self.lefts[top][many - 1][0]
        arrivals = {command: before for command in range(self.floor)}
        arrivals[-1] = 0
        for first in range(1, many):
            for standing, ways in self.stands[top][first].items():
                for end, further in self.changes[standing][many - first].items():
                    arrivals[end] += ways * further
        return arrivals

    def _lefts_behind(self, top, many, none):
        """By number, how often so many are left behind a top that is never changed."""
        numbers = [none] + [0] * many
        for first in range(1, many + 1):
            for standing, ways in self.stands[top][first].items():
                for left, further in enumerate(self.lefts[standing][many - first]):
                    numbers[left + 1] += ways * further
        return numbers


def check_length(length):
    """Raise Refused for any value that is no number to 40."""
    if not is_below(length, LENGTH_LIMIT + 1):
        raise Refused(length)


def left_numbers(merger, length):
    """By number, how many queues of a length the plain way leaves at so many commands."""
    check_length(length)
    piles = Piles(merger.rows, length)
    numbers = piles.lefts[piles.floor][length]
    last = max([left for left, many in enumerate(numbers) if many > 0])
    return tuple(numbers[:last + 1])


def mean_left(merger, length):
    """(top, bottom): the mean of what the plain way leaves of queues of a length."""
    numbers = left_numbers(merger, length)
    top = sum([left * many for left, many in enumerate(numbers)])
    bottom = sum(numbers)
    common = gcd(top, bottom)
    return top // common, bottom // common
