"""The plain way, and all folded queues to which ways lead."""

from foursfold.ends import FoldedEnds
from foursfold.errors import TooGreat
from foursfold.mergers import check_queue


def plain_fold(merger, queue):
    """The folded queue to which the plain way leads."""
    return _put_in_order(merger.rows, check_queue(merger, queue))[0]


def plain_way(merger, queue):
    """The places of the plain way."""
    return _put_in_order(merger.rows, check_queue(merger, queue))[1]


def put_behind(rows, held, command):
    """Put a command to a folded list; the places at which it merges."""
    places = []
    held.append(command)
    while len(held) > 1:
        end = rows[held[-2]][held[-1]]
        if end is None:
            break
        places.append(len(held) - 2)
        del held[-2:]
        if end != -1:
            held.append(end)
    return places


def _put_in_order(rows, queue):
    """What is left if command is put to command, and where they merged."""
    held = []
    way = []
    for command in queue:
        way.extend(put_behind(rows, held, command))
    return tuple(held), tuple(way)


def losing_four(merger):
    """The least four of which the plain way leaves too many, or None."""
    rows = merger.rows
    for one, row in enumerate(rows):
        for middle, ahead in enumerate(row):
            for other, behind in enumerate(rows[middle]):
                if _can_lose(rows, ahead, other, behind):
                    for last, end in enumerate(rows[behind]):
                        if end is not None and rows[other][last] is None:
                            return one, middle, other, last
    return None


def _can_lose(rows, ahead, other, behind):
    """Whether the last two of three merge, but no more behind the first two."""
    # If two of the three go, the third one is left: then all three merge.
    if ahead is None or ahead == -1 or behind is None or behind == -1:
        return False
    return rows[ahead][other] is None


def folded_total(merger, queue):
    """How many folded queues ways of a queue lead to."""
    ends = FoldedEnds(merger.rows, check_queue(merger, queue))
    total = 0
    # Like states have like rests: they are counted together.
    counts = {ends.start: 1}
    while len(counts) > 0:
        longer = {}
        for state, count in counts.items():
            if ends.is_end(state):
                total += count
            for _, behind in ends.further(state):
                longer[behind] = longer.get(behind, 0) + count
        counts = longer
    return total


def folded_queues(merger, queue, *, most=1000):
    """All folded queues to which ways of a queue lead, ascending."""
    ends = FoldedEnds(merger.rows, check_queue(merger, queue))
    found = []
    waiting = [((), ends.start)]
    while len(waiting) > 0:
        told, state = waiting.pop()
        if ends.is_end(state):
            if len(found) == most:
                raise TooGreat(most)
            found.append(told)
        # The least command is put last, as it is to be taken first.
        for command, behind in ends.further(state)[::-1]:
            waiting.append((told + (command,), behind))
    return tuple(found)
