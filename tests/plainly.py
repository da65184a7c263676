"""What the document says, done the slow way, and mergers to try it on.

Nothing here uses the package: rows of mergers are tuples, queues too.
"""

from functools import lru_cache
from itertools import product

HUGE = 10 ** 5000


def left_of(rows, one, other):
    """What is left of two things, -1 being nothing."""
    if one == -1:
        return other
    if other == -1:
        return one
    return rows[one][other]


def is_sound(rows):
    """Soundness, as point 5 words it."""
    return unsound_three(rows) is None


def unsound_three(rows):
    numbers = range(len(rows))
    for a, b, c in product(numbers, repeat=3):
        if rows[a][b] is None or rows[b][c] is None:
            continue
        if left_of(rows, rows[a][b], c) != left_of(rows, a, rows[b][c]):
            return a, b, c
    return None


def places(rows, queue):
    return [at for at in range(len(queue) - 1) if rows[queue[at]][queue[at + 1]] is not None]


def merge_at(rows, queue, place):
    end = rows[queue[place]][queue[place + 1]]
    return queue[:place] + (() if end == -1 else (end,)) + queue[place + 2:]


def go_way(rows, queue, way):
    """The end of a way; a place that does not merge is an AssertionError."""
    for place in way:
        assert isinstance(place, int) and place in places(rows, queue), (queue, way)
        queue = merge_at(rows, queue, place)
    return queue


def all_queues(rows, queue):
    """All queues to which ways of a queue lead, itself among them."""
    seen = {queue}
    waiting = [queue]
    while waiting:
        one = waiting.pop()
        for place in places(rows, one):
            other = merge_at(rows, one, place)
            if other not in seen:
                seen.add(other)
                waiting.append(other)
    return seen


@lru_cache(maxsize=400000)
def folded_of(rows, queue):
    """All folded queues to which ways of a queue lead, ascending."""
    at = places(rows, queue)
    if not at:
        return (queue,)
    found = set()
    for place in at:
        found.update(folded_of(rows, merge_at(rows, queue, place)))
    return tuple(sorted(found))


def plain_of(rows, queue):
    """What the plain way leaves, and its places, with the whole queue held."""
    done, way = 0, []
    while done < len(queue):
        done += 1
        while done > 1 and rows[queue[done - 2]][queue[done - 1]] is not None:
            way.append(done - 2)
            before = len(queue)
            queue = merge_at(rows, queue, done - 2)
            done -= before - len(queue)
    return queue, tuple(way)


def all_mergers(commands):
    """The rows of all sound mergers of so many commands, ascending by cells."""
    cells = [(one, other) for one in range(commands) for other in range(commands)]
    rows = [["open"] * commands for _ in range(commands)]
    found = []

    def may_be():
        for one, middle in cells:
            ahead = rows[one][middle]
            if ahead is None or ahead == "open":
                continue
            for other in range(commands):
                behind = rows[middle][other]
                if behind is None or behind == "open":
                    continue
                ends = (left_of(rows, ahead, other), left_of(rows, one, behind))
                if "open" not in ends and ends[0] != ends[1]:
                    return False
        return True

    def fill(at):
        if at == len(cells):
            found.append(tuple(map(tuple, rows)))
            return
        one, other = cells[at]
        for end in [None, -1] + list(range(commands)):
            rows[one][other] = end
            if may_be():
                fill(at + 1)
        rows[one][other] = "open"

    fill(0)
    return found


class Drawn:
    """Numbers that look drawn, and are the same in each run."""

    def __init__(self, seed):
        self.now = seed * 2654435761 % 2 ** 32

    def below(self, limit):
        self.now = (self.now * 1664525 + 1013904223) % 2 ** 32
        return (self.now >> 8) * limit >> 24

    def pick(self, things):
        return things[self.below(len(things))]

    def queue(self, commands, length):
        return tuple(self.below(commands) for _ in range(length))


def drawn_rows(drawn, commands, tries, gone=6):
    """Rows of a sound merger: cells are told as long as all stays sound."""
    rows = [[None] * commands for _ in range(commands)]
    for _ in range(tries):
        one, other = drawn.below(commands), drawn.below(commands)
        before = rows[one][other]
        rows[one][other] = -1 if drawn.below(gone) == 0 else drawn.below(commands)
        if not is_sound(rows):
            rows[one][other] = before
    return tuple(map(tuple, rows))


def drawn_machine(drawn, tables, states):
    """Unlike tables, 3 states or more; half the time their ends are added."""
    idle = tuple(range(states))
    found = []
    while len(found) < tables:
        table = tuple(drawn.below(states) for _ in range(states))
        if table != idle and table not in found:
            found.append(table)
    for one, other in product(list(found), repeat=2):
        both = tuple(other[state] for state in one)
        if drawn.below(2) and both != idle and both not in found and len(found) < 12:
            found.append(both)
    return tuple(found)


def machine_rows(tables):
    """What the tables of a machine merge to."""
    idle = tuple(range(len(tables[0])))
    ends = {table: at for at, table in enumerate(tables)}
    ends[idle] = -1
    return tuple(
        tuple(ends.get(tuple(other[state] for state in one)) for other in tables)
        for one in tables
    )


def nested(depth):
    """Lists and tuples, one in another."""
    value = ()
    for at in range(depth - 1):
        value = [value] if at % 2 else (value,)
    return value
