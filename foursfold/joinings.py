"""Queues put together of parts, and what they leave with one command less or more."""

from foursfold.checks import QUEUE_LIMIT, is_below, is_sequence
from foursfold.courts import need_even
from foursfold.errors import BadQueue
from foursfold.folding import put_behind
from foursfold.mergers import check_command, check_queue
from foursfold.rests import Rests

DEPTH_LIMIT = 40


def _check_tree(merger, value):
    """Raise BadQueue for any value that is no tree."""
    if not is_sequence(value):
        raise BadQueue(-1)
    level = [value]
    many = 0
    for _ in range(DEPTH_LIMIT):
        deeper = []
        for tree in level:
            many += len(tree)
            if many > QUEUE_LIMIT:
                raise BadQueue(-1)
            for part in tree:
                if is_sequence(part):
                    deeper.append(part)
                elif not is_below(part, merger.commands):
                    raise BadQueue(-1)
        level = deeper
    if len(level) > 0:
        raise BadQueue(-1)


def _commands_in(tree):
    """The commands of a checked tree, in order."""
    commands = []
    for part in tree:
        if is_sequence(part):
            commands.extend(_commands_in(part))
        else:
            commands.append(part)
    return commands


def tree_queue(merger, tree):
    """The commands of a tree, in order."""
    _check_tree(merger, tree)
    return tuple(_commands_in(tree))


def _fold_in(rows, tree):
    """What is left of a checked tree of which each part is folded by itself."""
    held = []
    for part in tree:
        for command in _fold_in(rows, part) if is_sequence(part) else [part]:
            put_behind(rows, held, command)
    return held


def tree_fold(merger, tree):
    """What is left of a tree of which each part that is a tree is folded by itself."""
    _check_tree(merger, tree)
    return tuple(_fold_in(merger.rows, tree))


def struck_lengths(merger, queue):
    """By index, how many commands are left without the one that stands there."""
    rows = need_even(merger).rows
    commands = check_queue(merger, queue)
    rests = Rests(rows, commands)
    held = []
    lengths = []
    for at, command in enumerate(commands):
        lengths.append(rests.length_behind(held, rests.starts[at + 1]))
        put_behind(rows, held, command)
    return tuple(lengths)


def put_lengths(merger, queue, command):
    """By place, how many commands are left with one more put there."""
    rows = need_even(merger).rows
    commands = check_queue(merger, queue)
    check_command(merger, command)
    rests = Rests(rows, commands)
    held = []
    lengths = []
    for at, start in enumerate(rests.starts):
        lengths.append(rests.length_behind(held, rests.put_ahead(command, start)))
        if at < len(commands):
            put_behind(rows, held, commands[at])
    return tuple(lengths)


def cut_lengths(merger, queue):
    """By place, how many commands are left of what is ahead of it and of the rest."""
    rows = need_even(merger).rows
    commands = check_queue(merger, queue)
    rests = Rests(rows, commands)
    held = []
    lengths = []
    for at, start in enumerate(rests.starts):
        lengths.append(len(held) + rests.lengths[start])
        if at < len(commands):
            put_behind(rows, held, commands[at])
    return tuple(lengths)
