"""Merges at places of queues, and ways of many merges."""

from foursfold.checks import is_below, is_sequence
from foursfold.errors import BadWay, Refused
from foursfold.mergers import check_queue


def merges_at(rows, queue, place):
    """Whether any value is a place at which neighbours of a queue merge."""
    if not is_below(place, len(queue) - 1):
        return False
    return rows[queue[place]][queue[place + 1]] is not None


def merge_within(rows, queue, place):
    """Change a list, a queue, by the merge at a place."""
    end = rows[queue[place]][queue[place + 1]]
    if end == -1:
        del queue[place:place + 2]
    else:
        queue[place:place + 2] = [end]


def fold_at(merger, queue, place):
    """The queue behind one merge; Refused where neighbours do not merge."""
    left = list(check_queue(merger, queue))
    if not merges_at(merger.rows, left, place):
        raise Refused(place)
    merge_within(merger.rows, left, place)
    return tuple(left)


def way_end(merger, queue, way):
    """The queue behind all merges of a way; BadWay where it cannot go on."""
    left = list(check_queue(merger, queue))
    if not is_sequence(way):
        raise BadWay(-1)
    for at, place in enumerate(way):
        if not merges_at(merger.rows, left, place):
            raise BadWay(at)
        merge_within(merger.rows, left, place)
    return tuple(left)
