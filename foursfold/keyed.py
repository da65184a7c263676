"""What the plain way leaves of items of several keys, stretch by stretch."""

from foursfold.folding import put_behind


class KeyedStretches:
    """What is left of the items that were put, those of a key in one row.

    barriers are those that still stand; ahead of each stands a stretch, and
    one behind the last: by key, the commands in it. many is how many items
    are left. tables and marks are the rows of the keys' mergers, and those of
    the barriers' (or None).
    """

    def __init__(self, tables, marks):
        self._tables = tables
        self._marks = marks
        self.barriers = []
        self.stretches = [[[] for _ in tables]]
        self.many = 0

    def put(self, item):
        """Put one checked item to what is left."""
        key, command = item
        if key is None:
            self._put_barrier(command)
            return
        held = self.stretches[-1][key]
        before = len(held)
        put_behind(self._tables[key], held, command)
        self.many += len(held) - before

    def _put_barrier(self, barrier):
        """Put a barrier: it merges as long as nothing stands between."""
        while len(self.barriers) > 0 and is_bare(self.stretches[-1]):
            end = self._marks[self.barriers[-1]][barrier]
            if end is None:
                break
            self.barriers.pop()
            # What stood ahead of the two goes on, as there is nothing between.
            self.stretches.pop()
            self.many -= 1
            if end == -1:
                return
            barrier = end
        self.barriers.append(barrier)
        self.stretches.append([[] for _ in self._tables])
        self.many += 1


def is_bare(stretch):
    """Whether nothing stands in a stretch."""
    return all([len(held) == 0 for held in stretch])


def stretches_of(keys, items):
    """What the plain way leaves of checked items."""
    left = KeyedStretches([merger.rows for merger in keys.mergers], _marks_of(keys))
    for item in items:
        left.put(item)
    return left


def mirror_stretches(keys):
    """Nothing yet, for items to be put from the last one on to the first."""
    tables = [_mirrored(merger.rows) for merger in keys.mergers]
    marks = _marks_of(keys)
    return KeyedStretches(tables, None if marks is None else _mirrored(marks))


def _marks_of(keys):
    """The rows of the merger of the barriers, or None."""
    return None if keys.barriers is None else keys.barriers.rows


def _mirrored(rows):
    """The rows of the mirror of a merger."""
    return list(zip(*rows))
