"""Safe heads: what may be sent, as nothing that comes will merge with it."""

from foursfold.courts import need_even
from foursfold.handing import folded_of
from foursfold.pushes import START, check_number
from foursfold.reaches import reach_down
from foursfold.walks import greatest_gains, walk_of


def safe_number(merger, queue):
    """How many commands of a folded queue, from the first on, are safe."""
    commands = folded_of(need_even(merger), queue)
    # What is ahead of a command that is never merged is not, either.
    return reach_down(merger.rows, commands)[0]


def losing_word(merger, queue):
    """Some shortest word for which the head is not safe, None if it is."""
    commands = folded_of(need_even(merger), queue)
    return reach_down(merger.rows, commands)[1]


def _reach_steps(rows):
    """What can be done to a queue, command by command from its end on.

    A node is (command of the queue, what merges with it): the first merge
    with it. A walk gains the number of commands that are merged.
    """
    steps = {START: []}
    for below, row in enumerate(rows):
        for other, end in enumerate(row):
            if end is not None:
                steps[START].append((1, (below, other), ((below,), (other,))))
                steps[(below, other)] = _steps_down(rows, below, end)
    return steps


def _steps_down(rows, top, end):
    """The steps from the first merge with a top to the first with what is ahead."""
    steps = []
    for below in range(len(rows)):
        if rows[below][top] is not None:
            continue
        words = _reaching_words(rows, below, end)
        for other in sorted(words):
            steps.append((1, (below, other), ((below,), words[other])))
    return steps


def _reaching_words(rows, below, end):
    """By command that can merge with one below, some word that makes it do so.

    The end is what stands behind the one below at first, -1 for nothing.
    """
    words = {}
    seen = {end: ()}
    waiting = [end]
    at = 0
    while at < len(waiting):
        top = waiting[at]
        at += 1
        if top != -1 and rows[below][top] is not None:
            words.setdefault(top, seen[top])
            continue
        for command in range(len(rows)):
            further = command if top == -1 else rows[top][command]
            if further is not None and further not in seen:
                seen[further] = seen[top] + (command,)
                waiting.append(further)
    return words


def head_depth(merger):
    """The least number of commands behind any head that make it safe, or None."""
    return greatest_gains(_reach_steps(need_even(merger).rows)).get(START)


def unsafe_head(merger, number):
    """Some (queue, word): a head that is not safe with so many behind, or None."""
    need_even(merger)
    check_number(number, 0)
    return walk_of(_reach_steps(merger.rows), START, number + 1)
