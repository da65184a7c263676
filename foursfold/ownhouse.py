"""Rings of commands that do not merge; the own house, whose states are classes."""

from foursfold.checks import are_below, is_row, is_sequence
from foursfold.courts import need_even
from foursfold.errors import Refused, TooGreat
from foursfold.folding import put_behind
from foursfold.handing import come_from, over_table
from foursfold.houses import check_state, check_tables, is_house, state_behind
from foursfold.walks import greatest_gains


def _further(rows, command):
    """The ascending commands that do not merge with one ahead of them."""
    return [other for other, end in enumerate(rows[command]) if end is None]


def _lengths_behind(rows):
    """By command how many may come behind it in a folded queue.

    Those behind which there may be a ring are not told.
    """
    steps = {}
    for command in range(len(rows)):
        steps[command] = [(1, other, None) for other in _further(rows, command)]
    return greatest_gains(steps)


def ring_paper(merger):
    """Some ("ring", commands), or ("longest", queue) if there is none."""
    rows = merger.rows
    lengths = _lengths_behind(rows)
    if len(lengths) < len(rows):
        return "ring", _some_ring(rows, lengths)
    left = max(list(lengths.values()))
    queue = [min([command for command in range(len(rows)) if lengths[command] == left])]
    while left > 0:
        left -= 1
        queue.append(min([other for other in _further(rows, queue[-1]) if lengths[other] == left]))
    return "longest", tuple(queue)


def _some_ring(rows, lengths):
    """Commands in a ring, if the lengths of those behind which one is are not told."""
    endless = [command for command in range(len(rows)) if command not in lengths]
    walk = []
    command = endless[0]
    while command not in walk:
        walk.append(command)
        command = min([other for other in _further(rows, command) if other not in lengths])
    return tuple(walk[walk.index(command):])


def ring_holds(merger, value):
    """Whether a value is a ring, or a longest folded queue where there is none."""
    if not is_row(value, 2, 2) or not is_sequence(value[1]):
        return False
    word, commands = value
    if len(commands) == 0 or not are_below(commands, merger.commands):
        return False
    inner = _are_apart(merger.rows, commands)
    if word == "ring":
        return inner and merger.rows[commands[-1]][commands[0]] is None
    told, longest = ring_paper(merger)
    return word == "longest" and told == word and inner and len(commands) == len(longest)


def _are_apart(rows, commands):
    """Whether no neighbours among some commands merge."""
    return all([rows[one][other] is None for one, other in zip(commands, commands[1:])])


def folded_number(merger):
    """How many folded queues there are, None if there is a ring."""
    rows = merger.rows
    lengths = _lengths_behind(rows)
    if len(lengths) < len(rows):
        return None
    counts = {}
    for _, command in sorted([(lengths[command], command) for command in range(len(rows))]):
        counts[command] = 1 + sum([counts[other] for other in _further(rows, command)])
    return 1 + sum(list(counts.values()))


def own_house(merger, *, most=5000):
    """None if there is a ring, else (tables, queues): a state for each class."""
    rows = need_even(merger).rows
    if len(_lengths_behind(rows)) < len(rows):
        return None
    folded = _all_folded(rows)
    states, queues = _class_states(over_table(merger), folded, most)
    tables = []
    for command in range(len(rows)):
        tables.append(tuple([states[_put_to(rows, queue, command)] for queue in queues]))
    return tuple(tables), queues


def _all_folded(rows):
    """All folded queues where there is no ring, the shortest first, then ascending."""
    found = [()]
    last = [(command,) for command in range(len(rows))]
    while len(last) > 0:
        found.extend(last)
        last = [queue + (other,) for queue in last for other in _further(rows, queue[-1])]
    return found


def _class_states(table, folded, most):
    """By folded queue the number of its class, and by number the least queue."""
    states = {}
    queues = []
    for first in folded:
        if first in states:
            continue
        if len(queues) == most:
            raise TooGreat(most)
        for queue in come_from(table, first, None, len(folded)):
            states[queue] = len(queues)
        queues.append(first)
    return states, tuple(queues)


def _put_to(rows, queue, command):
    """The folded queue behind a folded one and a command."""
    held = list(queue)
    put_behind(rows, held, command)
    return tuple(held)


def own_view(merger, tables, state, *, most=5000):
    """By state of the own house, where its queue leads a state of a house."""
    need_even(merger)
    checked = check_tables(merger, tables)
    if not is_house(merger, checked):
        raise Refused(tables)
    check_state(checked, state)
    found = own_house(merger, most=most)
    if found is None:
        return None
    return tuple([state_behind(checked, state, queue) for queue in found[1]])
