"""Any values, as point 1 of the document calls them."""

from foursfold.errors import BadQueue, NoCommand, Refused
from foursfold.keys import Keys
from foursfold.live import Live
from foursfold.menus import whole_menu
from foursfold.mergers import Merger

from plainly import HUGE, nested


def any_values():
    """One or more of each kind; -1, 0, 1 and small queues are among them."""
    return [
        None, True, False, -1, 0, 1, 2, -2, 11, 12, 60, HUGE, -HUGE, 2 ** 64,
        "", "0", "-1", "x", "-", "uneven", "0 1", "\n", "merger 1\n-",
        Merger([(None,)]), BadQueue(-1), NoCommand([0]), Keys([Merger([(None,)])]), Live(Merger([(None,)])),
        [whole_menu(1)], [0, Live(Merger([(None,)]), (0,))], (Keys([Merger([(-1,)])]), 0),
        [], (), [0], (0,), [0, 0], (0, 1), (0, 0, 0), [True], (False,), [True, 0], (0, None), [None], (-1,), [-2],
        ["0"], "01", ("0", "1"), [[]], ((),), [[0]], ((0,),), [(0, 0)], [[0], [0]], [0, [0]], ([0], 0),
        [HUGE], [0, HUGE], [0, -HUGE], [Merger([(None,)])], [0, Merger([(None,)])],
        [0] * 10001, (0,) * 10001, nested(40), [0, nested(39)],
    ]


def is_number(value):
    return type(value) is int and value >= 0


def is_below(value, limit):
    return is_number(value) and value < limit


def is_list(value):
    return type(value) in (list, tuple)


def queue_fault(value, commands):
    """The index that BadQueue is to carry, None for a queue."""
    if not is_list(value) or len(value) > 10000:
        return -1
    for at, command in enumerate(value):
        if not is_below(command, commands):
            return at
    return None


def no_lists(value):
    """Whether what was returned is tuples throughout."""
    if isinstance(value, (list, set, dict)):
        return False
    return not isinstance(value, tuple) or all(no_lists(part) for part in value)


class ErrorChecks:
    """For a TestCase: an error of just one class, and what it carries."""

    def raises(self, error, carried, function, *args, **named):
        with self.assertRaises(error) as caught:
            function(*args, **named)
        self.assertIs(type(caught.exception), error)
        (kept,) = vars(caught.exception).values()
        if error in (Refused, NoCommand):
            self.assertIs(kept, carried)
        self.assertTrue(alike(kept, carried), (kept, carried))


def alike(one, other):
    """Equality that keeps bools from integers, lists from tuples."""
    if type(one) is not type(other):
        return False
    if isinstance(one, (list, tuple)):
        return len(one) == len(other) and all(map(alike, one, other))
    return one == other
