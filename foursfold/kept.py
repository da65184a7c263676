"""What all folded queues of a queue have in common, in even mergers."""

from foursfold.checks import is_row, is_whole
from foursfold.courts import hand_pairs, hand_triples, need_even
from foursfold.errors import Refused
from foursfold.handing import folded_of
from foursfold.lattices import circle_sizes, is_sum_of, rows_against, stairs_of


def _first_unlike(merger, told):
    """The least three whose two folded queues are told unlike things, or None."""
    for three in hand_triples(need_even(merger)):
        ahead, behind = hand_pairs(merger, three)
        if told(ahead) != told(behind):
            return three
    return None


def first_kept(merger):
    """None if the first command is kept, else the least three against it."""
    return _first_unlike(merger, _first_of)


def _first_of(pair):
    """The first command of two."""
    return pair[0]


def last_kept(merger):
    """None if the last command is kept, else the least three against it."""
    return _first_unlike(merger, _last_of)


def _last_of(pair):
    """The last command of two."""
    return pair[1]


def bag_kept(merger):
    """None if the commands but for order are kept, else the least three against it."""
    return _first_unlike(merger, _bag_of)


def _bag_of(pair):
    """Two commands, the lesser one first."""
    return tuple(sorted(pair))


def weights_kept(merger, weights):
    """None if the sum of weights is kept, else the least three against it."""
    commands = need_even(merger).commands
    if not is_row(weights, commands, commands) or not all([is_whole(weight) for weight in weights]):
        raise Refused(weights)

    def sum_of(pair):
        """The weight of two commands together."""
        return weights[pair[0]] + weights[pair[1]]

    return _first_unlike(merger, sum_of)


def _counts(merger, queue):
    """By command, how often it stands in a queue."""
    return [queue.count(command) for command in range(merger.commands)]


def _changes(merger):
    """By hand-over, by command how many more of it there are."""
    rows = {}
    for three in hand_triples(merger):
        ahead, behind = hand_pairs(merger, three)
        rows[_less_counts(merger, ahead, behind)] = True
    return list(rows)


def _less_counts(merger, one, other):
    """By command, how often it stands in a queue, less how often in another."""
    return tuple([many - less for many, less in zip(_counts(merger, one), _counts(merger, other))])


def kept_basis(merger):
    """Rows of integers of which all kept weights are sums."""
    return rows_against(_changes(need_even(merger)), merger.commands)


def kept_group(merger):
    """(rank, divisors) of the group from which all kept sums come."""
    sizes = circle_sizes(_changes(need_even(merger)))
    return merger.commands - len(sizes), tuple([size for size in sizes if size > 1])


def same_kept(merger, one, other):
    """Whether two folded queues have the same kept sums in all groups."""
    ahead = folded_of(merger, one)
    behind = folded_of(merger, other)
    changes = _changes(need_even(merger))
    return is_sum_of(stairs_of(changes), _less_counts(merger, ahead, behind))
