"""Mergers and queues as texts."""

from foursfold.checks import QUEUE_LIMIT
from foursfold.errors import BadText
from foursfold.mergers import COMMAND_LIMIT, Merger, check_queue


def _head_line(commands):
    """The first line of the text of a merger."""
    return f"merger {commands}"


def _end_word(end):
    """The word for what two commands merge to."""
    if end is None:
        return "-"
    if end == -1:
        return "x"
    return str(end)


def merger_text(merger):
    """The text of a merger, without a line feed at its end."""
    lines = [_head_line(merger.commands)]
    for row in merger.rows:
        lines.append(" ".join([_end_word(end) for end in row]))
    return "\n".join(lines)


def read_merger(text):
    """The merger of a text; BadText with the first bad line, or Unsound."""
    if not isinstance(text, str):
        raise BadText(0)
    lines = text.split("\n")
    # Whole words are looked up, so that no other way to write a number counts.
    heads = {_head_line(many): many for many in range(1, COMMAND_LIMIT + 1)}
    if lines[0] not in heads:
        raise BadText(1)
    commands = heads[lines[0]]
    ends = [None, -1] + list(range(commands))
    words = {_end_word(end): end for end in ends}
    rows = []
    for at in range(1, commands + 1):
        if at >= len(lines) or not _is_line(words, lines[at], commands):
            raise BadText(at + 1)
        rows.append([words[word] for word in lines[at].split(" ")])
    if len(lines) > commands + 1:
        raise BadText(commands + 2)
    return Merger(rows)


def _is_line(words, line, commands):
    """Whether a line has a word that is known for each command."""
    parts = line.split(" ")
    return len(parts) == commands and all([part in words for part in parts])


def queue_text(merger, queue):
    """The text of a queue."""
    commands = check_queue(merger, queue)
    if len(commands) == 0:
        return "-"
    return " ".join([str(command) for command in commands])


def read_queue(merger, text):
    """The queue of a text; BadText with the index of the first bad word."""
    if not isinstance(text, str):
        raise BadText(0)
    if text == "-":
        return ()
    numbers = {str(command): command for command in range(merger.commands)}
    queue = []
    for at, word in enumerate(text.split(" ")):
        if at == QUEUE_LIMIT or word not in numbers:
            raise BadText(at)
        queue.append(numbers[word])
    return tuple(queue)
