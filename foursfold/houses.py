"""Houses: tables that tell by command the next state, and bear all merging."""

from foursfold.checks import is_below, is_row
from foursfold.errors import BadHouse, Refused
from foursfold.machines import idle_table, in_order, is_table
from foursfold.mergers import check_queue


def check_tables(merger, value):
    """Tables, one for each command, as tuples; BadHouse for any other value."""
    if not is_row(value, merger.commands, merger.commands):
        raise BadHouse(-1)
    for at, item in enumerate(value):
        if not is_table(item) or len(item) != len(value[0]):
            raise BadHouse(at)
    return tuple([tuple(item) for item in value])


def _done(tables, queue):
    """By state where a checked queue leads it."""
    done = idle_table(len(tables[0]))
    for command in queue:
        done = in_order(done, tables[command])
    return done


def end_table(tables, end):
    """By state where an end leads it: a command, or -1 for nothing."""
    return idle_table(len(tables[0])) if end == -1 else tables[end]


def house_map(merger, tables, queue):
    """By state where a queue leads it."""
    checked = check_tables(merger, tables)
    return _done(checked, check_queue(merger, queue))


def check_state(tables, state):
    """Raise Refused for any value that is no state of some tables."""
    if not is_below(state, len(tables[0])):
        raise Refused(state)


def state_behind(tables, state, queue):
    """The state to which a checked queue leads a state."""
    for command in queue:
        state = tables[command][state]
    return state


def house_state(merger, tables, state, queue):
    """The state to which a queue leads a state."""
    checked = check_tables(merger, tables)
    check_state(checked, state)
    return state_behind(checked, state, check_queue(merger, queue))


def house_fault(merger, tables):
    """None for a house, else (one, other, state): the first merge that is not borne."""
    checked = check_tables(merger, tables)
    for one, row in enumerate(merger.rows):
        for other, end in enumerate(row):
            if end is not None:
                state = _first_parted(in_order(checked[one], checked[other]), end_table(checked, end))
                if state is not None:
                    return one, other, state
    return None


def _first_parted(one, other):
    """The least state that two tables lead to unlike ones, or None."""
    for state, ends in enumerate(list(zip(one, other))):
        if ends[0] != ends[1]:
            return state
    return None


def is_house(merger, tables):
    """Whether merging never changes what is done."""
    return house_fault(merger, tables) is None


def house_parting(merger, tables, one, other):
    """The least state that two queues lead to unlike ones, or None."""
    checked = check_tables(merger, tables)
    ahead = check_queue(merger, one)
    behind = check_queue(merger, other)
    return _first_parted(_done(checked, ahead), _done(checked, behind))


def merges_there(merger, tables):
    """The ascending (one, other, end) that do not merge, but do what an end does."""
    checked = check_tables(merger, tables)
    ends = {}
    for end in range(-1, merger.commands):
        ends.setdefault(end_table(checked, end), end)
    found = []
    for one, row in enumerate(merger.rows):
        for other, end in enumerate(row):
            done = in_order(checked[one], checked[other])
            if end is None and done in ends:
                found.append((one, other, ends[done]))
    return tuple(found)
