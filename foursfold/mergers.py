"""Mergers: what each two commands merge to; queues; mergers of others."""

from foursfold.checks import are_below, is_below, is_row, is_whole, queue_of
from foursfold.errors import BadMerger, NoCommand, Refused, TooGreat, Unsound

COMMAND_LIMIT = 12


class Merger:
    """What each two commands merge to if the second comes right behind."""

    def __init__(self, rows):
        at = _bad_row(rows)
        if at is not None:
            raise BadMerger(at)
        told = tuple([tuple(row) for row in rows])
        three = _unsound_three(told)
        if three is not None:
            raise Unsound(three)
        self.commands = len(told)
        self.rows = told

    def __eq__(self, other):
        return isinstance(other, Merger) and self.rows == other.rows


def _bad_row(rows):
    """The index of the first item that is no row, -1 for no rows at all."""
    if not is_row(rows, 1, COMMAND_LIMIT):
        return -1
    for at, row in enumerate(rows):
        if not is_row(row, len(rows), len(rows)):
            return at
        if not all([_is_end(end, len(rows)) for end in row]):
            return at
    return None


def _is_end(value, commands):
    """Whether two of so many commands may merge to a value."""
    return value is None or (is_whole(value) and -1 <= value < commands)


def _unsound_three(rows):
    """The least three commands that are against soundness, or None."""
    for one, row in enumerate(rows):
        for middle, end in enumerate(row):
            if end is None:
                continue
            for other, behind in enumerate(rows[middle]):
                if behind is None:
                    continue
                if left_of(rows, end, other) != left_of(rows, one, behind):
                    return one, middle, other
    return None


def left_of(rows, one, other):
    """What is left of two neighbours, each of which may be -1 for nothing."""
    if one == -1:
        return other
    if other == -1:
        return one
    return rows[one][other]


def check_command(merger, value):
    """Raise NoCommand for a value that is no command."""
    if not is_below(value, merger.commands):
        raise NoCommand(value)


def merged(merger, one, other):
    """What two commands merge to: a command, -1 or None."""
    check_command(merger, one)
    check_command(merger, other)
    return merger.rows[one][other]


def three_ends(merger, one, middle, other):
    """What is left of three commands by the first two first, and the last."""
    for command in (one, middle, other):
        check_command(merger, command)
    rows = merger.rows
    ahead, behind = rows[one][middle], rows[middle][other]
    if ahead is None or behind is None:
        return None
    return left_of(rows, ahead, other), left_of(rows, one, behind)


def check_queue(merger, value):
    """The queue as a tuple; BadQueue for any value that is none."""
    return queue_of(merger.commands, value)


def places_of(rows, queue):
    """The ascending places at which neighbours of a checked queue merge."""
    pairs = list(zip(queue, queue[1:]))
    return tuple([at for at, (one, other) in enumerate(pairs) if rows[one][other] is not None])


def mergeable_places(merger, queue):
    """The ascending places at which neighbours merge."""
    return places_of(merger.rows, check_queue(merger, queue))


def is_folded(merger, queue):
    """Whether no neighbours of a queue merge."""
    return len(mergeable_places(merger, queue)) == 0


def mirror_merger(merger):
    """The merger in which one, other merge to what other, one did."""
    commands = list(range(merger.commands))
    return Merger([[merger.rows[other][one] for other in commands] for one in commands])


def named_merger(merger, names):
    """The merger with the command names[z] in the place of z."""
    commands = merger.commands
    if not is_row(names, commands, commands) or not are_below(names, commands):
        raise Refused(names)
    if len(set(names)) != commands:
        raise Refused(names)
    rows = [[None] * commands for _ in range(commands)]
    for one, row in enumerate(merger.rows):
        for other, end in enumerate(row):
            rows[names[one]][names[other]] = _renamed(names, end)
    return Merger(rows)


def _renamed(names, end):
    """An end under its new name."""
    if end is None or end == -1:
        return end
    return names[end]


def part_merger(merger, commands):
    """The merger of some commands alone, numbered anew in order."""
    if not is_row(commands, 1, merger.commands) or not are_below(commands, merger.commands):
        raise Refused(commands)
    if list(commands) != sorted(set(commands)):
        raise Refused(commands)
    return Merger(part_rows(merger.rows, commands))


def part_rows(rows, commands):
    """The rows of some commands alone, numbered anew in order."""
    numbers = {command: number for number, command in enumerate(commands)}
    numbers[-1] = -1
    # An end that is not among the commands, and None, have no number.
    return [[numbers.get(rows[one][other]) for other in commands] for one in commands]


def beside_mergers(one, other):
    """The commands of both, the other's numbered on behind."""
    if one.commands + other.commands > COMMAND_LIMIT:
        raise TooGreat(COMMAND_LIMIT)
    ahead = (None,) * one.commands
    behind = (None,) * other.commands
    names = list(range(one.commands, one.commands + other.commands))
    rows = [row + behind for row in one.rows]
    for row in other.rows:
        rows.append(ahead + tuple([_renamed(names, end) for end in row]))
    return Merger(rows)
