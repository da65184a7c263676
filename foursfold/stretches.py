"""What stretches come to, and the fewest and most that ways leave."""

from foursfold.checks import is_below
from foursfold.errors import NoCommand, Refused
from foursfold.mergers import check_queue
from foursfold.spans import commands_in, span_table, spans_way, thing_bit, things_in


def comes_to(merger, queue, first, last):
    """The ascending things to which a stretch of a queue can be merged."""
    commands = check_queue(merger, queue)
    if not is_below(first, len(commands)):
        raise Refused(first)
    if not is_below(last, len(commands) + 1) or last <= first:
        raise Refused(last)
    stretch = commands[first:last]
    return tuple(things_in(span_table(merger.rows, stretch)[0][len(stretch)]))


def one_way(merger, queue, end):
    """Some way of a whole queue to a command, or to nothing; or None."""
    commands = check_queue(merger, queue)
    if end != -1 and not is_below(end, merger.commands):
        raise NoCommand(end)
    if len(commands) == 0:
        return () if end == -1 else None
    table = span_table(merger.rows, commands)
    if table[0][len(commands)] & thing_bit(end) == 0:
        return None
    return spans_way(merger.rows, table, [(0, len(commands), end)])


def fewest_left(merger, queue):
    """The fewest commands that any way leaves."""
    table = span_table(merger.rows, check_queue(merger, queue))
    return _commands_of(_fewest_spans(table))


def most_left(merger, queue):
    """The most commands that a way to a folded queue leaves."""
    table = span_table(merger.rows, check_queue(merger, queue))
    return _commands_of(_most_spans(merger.rows, table))


def fewest_way(merger, queue):
    """Some way that leaves the fewest commands."""
    table = span_table(merger.rows, check_queue(merger, queue))
    return spans_way(merger.rows, table, _fewest_spans(table))


def most_way(merger, queue):
    """Some way to a folded queue that leaves the most commands."""
    table = span_table(merger.rows, check_queue(merger, queue))
    return spans_way(merger.rows, table, _most_spans(merger.rows, table))


def _commands_of(spans):
    """How many commands some spans leave."""
    return len([span for span in spans if span[2] != -1])


def _fewest_spans(table):
    """Spans, side by side, that leave the fewest commands of a queue."""
    # By index: the fewest commands ahead of it, and the last span to it.
    best = [(0, None)]
    for last in range(1, len(table)):
        options = []
        for first in range(last):
            for thing in things_in(table[first][last]):
                more = 0 if thing == -1 else 1
                options.append((best[first][0] + more, (first, last, thing)))
        best.append(min(options))
    spans = []
    last = len(table) - 1
    while last > 0:
        spans.append(best[last][1])
        last = best[last][1][0]
    return spans[::-1]


def _most_spans(rows, table):
    """Spans, side by side, that leave the most commands, but no two that merge.

    A stretch that goes is told as a part of the one beside it. So only where
    all must go a span comes to nothing.
    """
    # By index, by last command ahead of it, -1 for none: how many commands
    # are ahead, the last span, and the command before its one.
    best = [{-1: (0, None, None)}]
    for last in range(1, len(table)):
        best.append(_most_ahead(rows, table, best, last))
    last = len(table) - 1
    if len(best[last]) == 0:
        return [(0, last, -1)]
    _, command = max([(told[0], end) for end, told in best[last].items()])
    spans = []
    while last > 0:
        _, span, command = best[last][command]
        spans.append(span)
        last = span[0]
    return spans[::-1]


def _most_ahead(rows, table, best, last):
    """What is told of one index, of those ahead of which the best is known."""
    found = {}
    for first in range(last):
        for command in commands_in(table[first][last]):
            for before, told in best[first].items():
                if before != -1 and rows[before][command] is not None:
                    continue
                if command not in found or found[command][0] <= told[0]:
                    found[command] = (told[0] + 1, (first, last, command), before)
    return found
