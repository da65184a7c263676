"""Changes of the rows of a table, and streams of them."""

from foursfold.checks import QUEUE_LIMIT, is_below, is_row, is_sequence, is_whole
from foursfold.errors import BadQueue, Refused
from foursfold.folding import put_behind
from foursfold.houses import state_behind
from foursfold.machines import STATE_LIMIT, machine_merger
from foursfold.mergers import COMMAND_LIMIT, check_queue

WHOLE_LIMIT = 4
# What a row that is absent is among the states; a value is one more than itself.
ABSENT = 0


class Menu:
    """Changes of a row that is absent or has one of some values."""

    def __init__(self, values, changes):
        # One state more is told: a row may be absent.
        if not is_below(values, STATE_LIMIT) or values == 0:
            raise Refused(values)
        if not is_row(changes, 1, COMMAND_LIMIT) or not all([_is_change(values, change) for change in changes]):
            raise Refused(changes)
        self.row_values = values
        self.changes = tuple([tuple(change) for change in changes])
        self.tables = tuple([_table_of(values, change) for change in self.changes])
        self.merger = machine_merger(self.tables)


def _is_change(values, value):
    """Whether a value is a change of rows with so many values."""
    if not is_row(value, 1, 2):
        return False
    if len(value) == 1:
        return value[0] == "drop"
    word, number = value
    if word == "put" or word == "set":
        return is_below(number, values)
    return word == "add" and is_below(number, values) and number > 0


def _table_of(values, change):
    """By state the one to which a change leads it."""
    word = change[0]
    if word == "drop":
        return (ABSENT,) * (values + 1)
    if word == "put":
        return (change[1] + 1,) * (values + 1)
    if word == "set":
        return (ABSENT,) + (change[1] + 1,) * values
    return (ABSENT,) + tuple([(value + change[1]) % values + 1 for value in range(values)])


def whole_menu(values):
    """The menu of all changes that do something."""
    if not is_below(values, WHOLE_LIMIT + 1) or values == 0:
        raise Refused(values)
    numbers = list(range(values))
    changes = [("put", number) for number in numbers]
    # With one value alone, to set it does nothing.
    if values > 1:
        changes.extend([("set", number) for number in numbers])
    changes.extend([("add", number) for number in numbers[1:]])
    changes.append(("drop",))
    return Menu(values, changes)


def row_after(menu, row, queue):
    """The value of a row behind a queue of changes, None if it is absent."""
    if row is not None and not is_below(row, menu.row_values):
        raise Refused(row)
    commands = check_queue(menu.merger, queue)
    state = ABSENT if row is None else row + 1
    return _value_of(state_behind(menu.tables, state, commands))


def _value_of(state):
    """The value of a row in a state, None if it is absent."""
    return None if state == ABSENT else state - 1


def _check_stream(menu, value):
    """Raise BadQueue for any value that is no stream."""
    if not is_row(value, 0, QUEUE_LIMIT):
        raise BadQueue(-1)
    for at, pair in enumerate(value):
        if not is_row(pair, 2, 2) or not _is_number(pair[0]) or not is_below(pair[1], menu.merger.commands):
            raise BadQueue(at)


def _is_number(value):
    """Whether a value is an integer from 0 on."""
    return is_whole(value) and value >= 0


def folded_stream(menu, stream):
    """The ascending (row, what is left of its changes), of all with something left."""
    _check_stream(menu, stream)
    held = {}
    for row, command in stream:
        put_behind(menu.merger.rows, held.setdefault(row, []), command)
    return tuple([(row, tuple(held[row])) for row in sorted(held) if len(held[row]) > 0])


def rows_after(menu, rows, stream):
    """The ascending (row, value) of all that are there behind a stream."""
    if not _are_rows(menu, rows):
        raise Refused(rows)
    _check_stream(menu, stream)
    states = {row: value + 1 for row, value in rows}
    for row, command in stream:
        states[row] = menu.tables[command][states.get(row, ABSENT)]
    return tuple([(row, _value_of(states[row])) for row in sorted(states) if states[row] != ABSENT])


def _are_rows(menu, value):
    """Whether a value is ascending pairs of unlike rows and their values."""
    if not is_sequence(value):
        return False
    last = -1
    for pair in value:
        if not is_row(pair, 2, 2) or not _is_number(pair[0]) or not is_below(pair[1], menu.row_values):
            return False
        if pair[0] <= last:
            return False
        last = pair[0]
    return True
