"""Notes: what must be known of a queue to tell how its folded length changes."""

from foursfold.errors import TooGreat
from foursfold.folding import put_behind
from foursfold.views import numbered_signs


class Notes:
    """The notes of an even merger whose heads are safe behind so many commands.

    Of a folded queue only its last commands, as many as the depth, are ever
    merged: queues that agree in them have one note. By note, by command,
    nexts tells the next note, changes by how much the length changes; queues
    tells by note its least shortest queue, by which notes are numbered.
    """

    def __init__(self, merger, depth, most):
        rows = merger.rows
        _check_number(rows, depth, most)
        nexts, changes, queues = _pile_house(rows, depth)
        notes = like_levels(nexts, changes)[-1]
        firsts = _first_places(notes)
        self.nexts = [tuple([notes[pile] for pile in nexts[first]]) for first in firsts]
        self.changes = [changes[first] for first in firsts]
        self.queues = tuple([queues[first] for first in firsts])


def _first_places(notes):
    """By note, numbered as they come, the index at which it stands first."""
    firsts = []
    for at, note in enumerate(notes):
        if note == len(firsts):
            firsts.append(at)
    return firsts


def _check_number(rows, depth, most):
    """Raise TooGreat if more folded queues than that have so many commands at most."""
    counts = [1] * len(rows)
    total = 1
    for _ in range(depth):
        total += sum(counts)
        if total > most:
            raise TooGreat(most)
        counts = [
            sum([counts[one] for one in range(len(rows)) if rows[one][other] is None]) for other in range(len(rows))
        ]


def _pile_house(rows, depth):
    """By the ends of folded queues, by command: the next one, the change; the least queue.

    The ends are told in the order of their least shortest queues.
    """
    numbers = {(): 0}
    piles = [()]
    queues = [()]
    nexts = []
    changes = []
    while len(nexts) < len(piles):
        pile = piles[len(nexts)]
        queue = queues[len(nexts)]
        row = []
        told = []
        for command in range(len(rows)):
            held = list(pile)
            put_behind(rows, held, command)
            told.append(len(held) - len(pile))
            end = tuple(held[max(0, len(held) - depth):])
            if end not in numbers:
                numbers[end] = len(piles)
                piles.append(end)
                queues.append(queue + (command,))
            row.append(numbers[end])
        nexts.append(row)
        changes.append(tuple(told))
    return nexts, changes, queues


def like_levels(nexts, changes):
    """By number n, from 1 on: groups of what the first n commands change alike.

    The last groups are those of what any commands change alike.
    """
    levels = [numbered_signs(changes)]
    while True:
        groups = levels[-1]
        signs = [(group, tuple([groups[behind] for behind in row])) for group, row in zip(groups, nexts)]
        finer = numbered_signs(signs)
        if finer == groups:
            return levels
        levels.append(finer)


def parting_word(nexts, changes, one, other):
    """The least of the shortest words that part two unlike notes."""
    levels = like_levels(nexts, changes)
    left = 0
    while levels[left][one] == levels[left][other]:
        left += 1
    word = []
    while left > 0:
        left -= 1
        command = _first_unlike([levels[left][behind] for behind in nexts[one]],
                                [levels[left][behind] for behind in nexts[other]])
        word.append(command)
        one, other = nexts[one][command], nexts[other][command]
    word.append(_first_unlike(changes[one], changes[other]))
    return tuple(word)


def _first_unlike(one, other):
    """The first index at which two sequences are unlike."""
    return [ahead == behind for ahead, behind in zip(one, other)].index(False)
