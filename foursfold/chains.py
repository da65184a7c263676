"""Chains of queues, each one merge away from the next: these do the same everywhere."""

from heapq import heappop, heappush

from foursfold.checks import is_row, is_sequence
from foursfold.courts import is_even
from foursfold.errors import BadQueue, TooGreat
from foursfold.folding import plain_way
from foursfold.handing import come_from, over_table, over_threes
from foursfold.mergers import check_queue, places_of
from foursfold.queues import merge_within
from foursfold.walks import greatest_gains

# How many commands more than either of its ends the queues of a search have,
# if there is no end of queues: else it would go for longer and longer ones.
ROOM = 12


def chain_paper(merger, one, other, *, most=5000):
    """Some ("chain", queues) from one queue to another, None if there is none."""
    first = check_queue(merger, one)
    last = check_queue(merger, other)
    if first == last:
        return "chain", (first,)
    if is_even(merger):
        queues = _folded_chain(merger, first, last, most)
    else:
        queues = _searched_chain(merger, first, last, most)
    return None if queues is None else ("chain", tuple(queues))


def _folded_chain(merger, first, last, most):
    """A chain in an even merger: to a folded queue, by hand-overs, and back."""
    ahead = _plain_queues(merger, first)
    behind = _plain_queues(merger, last)
    if len(ahead[-1]) != len(behind[-1]):
        return None
    known = come_from(over_table(merger), ahead[-1], behind[-1], most)
    if behind[-1] not in known:
        return None
    threes = over_threes(merger)
    middle = []
    queue = behind[-1]
    while queue != ahead[-1]:
        before, place, pair = known[queue]
        three = threes[before[place:place + 2]][pair]
        middle.append(queue)
        middle.append(before[:place] + three + before[place + 2:])
        queue = before
    return ahead + middle[::-1] + behind[::-1][1:]


def _plain_queues(merger, queue):
    """A queue and all that the plain way makes of it, to the folded one."""
    queues = [queue]
    left = list(queue)
    for place in plain_way(merger, queue):
        merge_within(merger.rows, left, place)
        queues.append(tuple(left))
    return queues


def _searched_chain(merger, first, last, most):
    """A chain in any merger: the shortest queues are looked at first."""
    splits = _splits(merger.rows)
    endless = _endless_commands(merger.commands, splits)
    room = max(len(first), len(last)) + ROOM
    passed_over = False
    known = {first: None}
    waiting = [(len(first), first)]
    while len(waiting) > 0:
        _, queue = heappop(waiting)
        for further in _neighbours(merger.rows, splits, queue):
            if further in known:
                continue
            if len(further) > room and _is_endless(splits, endless, further):
                passed_over = True
                continue
            if len(known) == most:
                raise TooGreat(most)
            known[further] = queue
            if further == last:
                return _come_through(known, last)
            heappush(waiting, (len(further), further))
    # Where one was passed over there is no end of queues.
    if passed_over:
        raise TooGreat(most)
    return None


def _come_through(known, last):
    """The queues that led to the last one, from the first on."""
    queues = [last]
    while known[queues[-1]] is not None:
        queues.append(known[queues[-1]])
    return queues[::-1]


def _splits(rows):
    """By end, -1 for nothing, the pairs that merge to it."""
    splits = {}
    for one, row in enumerate(rows):
        for other, end in enumerate(row):
            if end is not None:
                splits.setdefault(end, []).append((one, other))
    return splits


def _endless_commands(commands, splits):
    """The commands that can be split on and on."""
    steps = {}
    for command in range(commands):
        steps[command] = [(1, part, None) for pair in splits.get(command, []) for part in pair]
    gains = greatest_gains(steps)
    return [command for command in range(commands) if command not in gains]


def _is_endless(splits, endless, queue):
    """Whether there is no end of queues that chains lead to from one."""
    return -1 in splits or any([command in endless for command in queue])


def _neighbours(rows, splits, queue):
    """All queues that one merge makes of a queue, or of which one makes it."""
    found = []
    for place in places_of(rows, queue):
        left = list(queue)
        merge_within(rows, left, place)
        found.append(tuple(left))
    for place, command in enumerate(queue):
        for pair in splits.get(command, []):
            found.append(queue[:place] + pair + queue[place + 1:])
    for place in range(len(queue) + 1):
        for pair in splits.get(-1, []):
            found.append(queue[:place] + pair + queue[place:])
    return found


def chain_holds(merger, one, other, value):
    """Whether a value is a chain from one queue to another."""
    first = check_queue(merger, one)
    last = check_queue(merger, other)
    queues = _told_queues(merger, value)
    if queues is None or queues[0] != first or queues[-1] != last:
        return False
    return all([_is_merge(merger.rows, ahead, behind) for ahead, behind in zip(queues, queues[1:])])


def _told_queues(merger, value):
    """The queues that a value tells as a chain, one at least, or None."""
    if not is_row(value, 2, 2) or value[0] != "chain" or not is_sequence(value[1]) or len(value[1]) == 0:
        return None
    try:
        return [check_queue(merger, queue) for queue in value[1]]
    except BadQueue:
        return None


def _is_merge(rows, one, other):
    """Whether one merge leads from one of two queues to the other one."""
    if len(one) < len(other):
        return _is_merge_of(rows, other, one)
    return _is_merge_of(rows, one, other)


def _is_merge_of(rows, queue, left):
    """Whether one merge leads from a queue to one that is not longer."""
    gone = len(queue) - len(left)
    if gone not in (1, 2):
        return False
    # The merge is not behind the first commands that are unlike.
    same = 0
    while same < len(left) and queue[same] == left[same]:
        same += 1
    for place in range(min(same, len(queue) - 2), -1, -1):
        end = rows[queue[place]][queue[place + 1]]
        wanted = -1 if gone == 2 else left[place]
        if end == wanted and queue[place + 2:] == left[place + 2 - gone:]:
            return True
    return False
