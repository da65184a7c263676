"""Machines: tables that tell by state the next one."""

from foursfold.checks import are_below, is_row, queue_of
from foursfold.errors import BadHouse
from foursfold.mergers import COMMAND_LIMIT, Merger

STATE_LIMIT = 60


def check_machine(value):
    """The machine as tuples; BadHouse for any value that is none."""
    if not is_row(value, 1, COMMAND_LIMIT):
        raise BadHouse(-1)
    tables = []
    for at, item in enumerate(value):
        if not is_table(item) or not _is_further(tables, tuple(item)):
            raise BadHouse(at)
        tables.append(tuple(item))
    return tuple(tables)


def is_table(value):
    """Whether a value tells by state a next one."""
    return is_row(value, 1, STATE_LIMIT) and are_below(value, len(value))


def _is_further(tables, table):
    """Whether a table is not idle and goes with the tables before it."""
    if table == idle_table(len(table)) or table in tables:
        return False
    return len(tables) == 0 or len(table) == len(tables[0])


def idle_table(states):
    """The table that leaves all states."""
    return tuple(range(states))


def in_order(one, other):
    """The table that does what one table does, then what another does."""
    return tuple([other[state] for state in one])


def done_table(tables, queue):
    """By state, where it leads if the commands of a queue are done in order."""
    machine = check_machine(tables)
    done = idle_table(len(machine[0]))
    for command in queue_of(len(machine), queue):
        done = in_order(done, machine[command])
    return done


def machine_merger(tables):
    """The merger of what two commands do: a command, nothing, or neither."""
    machine = check_machine(tables)
    ends = {table: command for command, table in enumerate(machine)}
    ends[idle_table(len(machine[0]))] = -1
    # What no command does has no number: such two do not merge.
    return Merger([[ends.get(in_order(one, other)) for other in machine] for one in machine])
