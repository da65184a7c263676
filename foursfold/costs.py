"""What merges between two folded queues: the second one put to the first one.

Once a command of the second queue came to stand without a merge, nothing
merges any more, as it is folded: so each one that is looked at merges at once.
The first queue is told from its end on, a command only when it is needed.
"""

from foursfold.pushes import START, merge_gain

FLOOR = -1
# The kinds of nodes: nothing is left of the first queue; a command of it is
# on top; something stands above a command of it; something comes upon one.
NOTHING_LEFT = 0
ON_TOP = 1
STANDS = 2
COMES = 3


def cost_steps(rows):
    """The graph of all merges between two folded queues.

    The last part of a node is the command of the second queue that was put
    last, -1 for none. A walk gains the number of commands that are taken away.
    """
    steps = {START: [(0, (ON_TOP, top, -1), ((top,), ())) for top in range(len(rows))]}
    waiting = [START]
    while len(waiting) > 0:
        further = [step[1] for step in steps[waiting.pop()]]
        for node in further:
            if node not in steps:
                steps[node] = _steps_from(rows, node)
                waiting.append(node)
    return steps


def _steps_from(rows, node):
    """The steps from any node but the first."""
    if node[0] == ON_TOP:
        return _steps_on_top(rows, node[1], node[2])
    if node[0] == STANDS:
        return _steps_of_puts(rows, node)
    if node[0] == COMES:
        return _steps_down(rows, node)
    return []


def _told_below(below):
    """What a step tells that has a command below, or the floor."""
    return ((), ()) if below == FLOOR else ((below,), ())


def _ahead_of(rows, top):
    """What may be ahead of a command of a folded queue."""
    return [FLOOR] + [below for below in range(len(rows)) if rows[below][top] is None]


def _steps_on_top(rows, top, last):
    """The choice of what is ahead of a command on top."""
    return [(0, (STANDS, below, top, last), _told_below(below)) for below in _ahead_of(rows, top)]


def _steps_of_puts(rows, node):
    """All commands that may be put next and merge at once."""
    _, below, top, last = node
    steps = []
    for command, end in enumerate(rows[top]):
        if end is None or (last != -1 and rows[last][command] is not None):
            continue
        steps.append((merge_gain(end), _left_on(below, end, command), ((), (command,))))
    return steps


def _left_on(below, end, last):
    """The node behind a merge above a command, or above the floor."""
    if end != -1:
        return COMES, below, end, last
    if below == FLOOR:
        return NOTHING_LEFT, last
    return ON_TOP, below, last


def _steps_down(rows, node):
    """The merge with a command below, if there is one."""
    _, below, top, last = node
    end = None if below == FLOOR else rows[below][top]
    if end is None:
        return [(0, (STANDS, below, top, last), ((), ()))]
    gain = merge_gain(end)
    return [(gain, _left_on(ahead, end, last), _told_below(ahead)) for ahead in _ahead_of(rows, below)]
