"""How many commands are left, and what one command more changes."""

from foursfold.checks import is_below
from foursfold.courts import need_even
from foursfold.errors import Refused
from foursfold.folding import plain_fold, put_behind
from foursfold.mergers import check_command
from foursfold.walks import greatest_gains, walk_of

NUMBER_LIMIT = 200
START = ()


def end_length(merger, queue):
    """How many commands are left of a queue, whichever way."""
    return len(plain_fold(need_even(merger), queue))


def push_change(merger, queue, command):
    """How many commands more are left if one more is put behind a queue."""
    held = list(plain_fold(need_even(merger), queue))
    check_command(merger, command)
    before = len(held)
    put_behind(merger.rows, held, command)
    return len(held) - before


def merge_gain(end):
    """How many commands a merge takes away."""
    return 2 if end == -1 else 1


def _merge_steps(rows):
    """The merges that one command more makes from the end of a queue on.

    A node is (command of the queue, what comes behind it): two that merge. A
    walk gains the number of commands that are taken away.
    """
    steps = {START: []}
    for one, row in enumerate(rows):
        for other, end in enumerate(row):
            if end is None:
                continue
            steps[START].append((merge_gain(end), (one, other), ((one,), (other,))))
            steps[(one, other)] = _steps_down(rows, one, end)
    return steps


def _steps_down(rows, top, end):
    """The steps from a merge with the top of a queue to one with what is ahead."""
    if end == -1:
        return []
    steps = []
    for below, row in enumerate(rows):
        if row[top] is None and row[end] is not None:
            steps.append((merge_gain(row[end]), (below, end), ((below,), ())))
    return steps


def most_drop(merger):
    """The greatest number by which a command makes any queue shorter, or None."""
    gains = greatest_gains(_merge_steps(need_even(merger).rows))
    if START not in gains:
        return None
    # What was put itself is one of those that are taken away.
    return max(0, gains[START] - 1)


def check_number(number, least):
    """Raise Refused for any value that is no number from least to 200."""
    if not is_below(number, NUMBER_LIMIT + 1) or number < least:
        raise Refused(number)


def deep_drop(merger, number):
    """Some (queue, command), the one made shorter by so many, or None."""
    need_even(merger)
    check_number(number, 1)
    found = walk_of(_merge_steps(merger.rows), START, number + 1)
    if found is None:
        return None
    queue, word = found
    return queue, word[0]
