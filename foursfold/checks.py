"""What kinds of values are told apart everywhere."""

from foursfold.errors import BadQueue

QUEUE_LIMIT = 10000


def is_sequence(value):
    """Whether a value is a list or a tuple."""
    return isinstance(value, (list, tuple))


def is_row(value, low, high):
    """Whether a value is a sequence of at least low and at most high items."""
    return is_sequence(value) and low <= len(value) <= high


def is_whole(value):
    """Whether a value is an integer, which no bool is."""
    return isinstance(value, int) and not isinstance(value, bool)


def is_below(value, limit):
    """Whether a value is a number below a limit."""
    return is_whole(value) and 0 <= value < limit


def are_below(values, limit):
    """Whether all items of a sequence are numbers below a limit."""
    return all([is_below(value, limit) for value in values])


def queue_of(commands, value):
    """A queue of so many commands' numbers as a tuple, or BadQueue."""
    if not is_row(value, 0, QUEUE_LIMIT):
        raise BadQueue(-1)
    for at, command in enumerate(value):
        if not is_below(command, commands):
            raise BadQueue(at)
    return tuple(value)
