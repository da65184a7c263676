"""How far down a folded queue what comes behind it can reach."""


def reach_down(rows, queue):
    """(index, word): the least index of a command that can be merged.

    The index is the queue's length if none can be; the word is one of the
    fewest commands that have the head merged, None if the head is safe. A
    word of the fewest commands is folded itself. Once one of its commands
    came to stand without a merge all others would stand behind it, without
    a merge: so only commands that merge at once are looked at.
    """
    least = len(queue)
    if least == 0:
        return 0, None
    table = _rest_table(rows, queue)
    start = (least - 1, queue[-1])
    # By what stands on top, at which index: the top before it, the command.
    known = {start: None}
    waiting = [start]
    at = 0
    while at < len(waiting):
        top = waiting[at]
        at += 1
        for command, end in enumerate(rows[top[1]]):
            if end is None:
                continue
            lowest, further = _rest_at(table, queue, top[0], end)
            least = min(least, lowest)
            if least == 0:
                return 0, _word_to(known, top) + (command,)
            if further not in known:
                known[further] = (top, command)
                waiting.append(further)
    return least, None


def _rest_table(rows, queue):
    """By index, by what came to stand there: (lowest index merged, top then)."""
    table = []
    for at in range(len(queue)):
        ends = [None] * len(rows) if at == 0 else rows[queue[at - 1]]
        table.append([
            (at, (at, command)) if end is None else _rest_at(table, queue, at - 1, end)
            for command, end in enumerate(ends)
        ])
    return table


def _rest_at(table, queue, at, end):
    """What is told of a merge at an index, the table being told up to it."""
    if end != -1:
        return table[at][end]
    # What stands ahead is on top again. (If the head is gone, nothing is: but
    # then the head was merged, and nobody asks for what is on top.)
    return at, (at - 1, queue[at - 1])


def _word_to(known, top):
    """The commands that led to a top."""
    word = []
    while known[top] is not None:
        top, command = known[top]
        word.append(command)
    return tuple(word[::-1])
