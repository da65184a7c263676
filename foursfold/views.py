"""Views: commands in groups that merge alike."""

from itertools import product

from foursfold.checks import are_below, is_below, is_row, is_sequence
from foursfold.errors import Refused
from foursfold.mergers import Merger


def _grouping(merger, value):
    """A grouping as a tuple; Refused for any value that is none."""
    if not is_row(value, merger.commands, merger.commands):
        raise Refused(value)
    groups = 0
    for group in value:
        # A command begins the next group, or is in one that began before it.
        if not is_below(group, groups + 1):
            raise Refused(value)
        groups = max(groups, group + 1)
    return tuple(value)


def _end_group(merger, view, one, other):
    """The group that two commands merge to, or -1, or None."""
    end = merger.rows[one][other]
    if end is None or end == -1:
        return end
    return view[end]


def unlike_pairs(merger, value):
    """None for a view, else two pairs of like groups that merge unlike."""
    view = _grouping(merger, value)
    least = {}
    for one, other in product(range(merger.commands), range(merger.commands)):
        groups = (view[one], view[other])
        pair = least.setdefault(groups, (one, other))
        if _end_group(merger, view, one, other) != _end_group(merger, view, pair[0], pair[1]):
            return pair, (one, other)
    return None


def check_view(merger, value):
    """The view as a tuple; Refused for any value that is none."""
    if unlike_pairs(merger, value) is not None:
        raise Refused(value)
    return tuple(value)


def viewed_merger(merger, view):
    """The merger that has the groups of a view as commands."""
    groups = check_view(merger, view)
    firsts = [groups.index(group) for group in range(max(groups) + 1)]
    return Merger([[_end_group(merger, groups, one, other) for other in firsts] for one in firsts])


def numbered_signs(signs):
    """The grouping of what has like signs."""
    numbers = {}
    groups = []
    for sign in signs:
        groups.append(numbers.setdefault(sign, len(numbers)))
    return tuple(groups)


def coarsest_view(merger):
    """The view with the fewest groups."""
    view = (0,) * merger.commands
    finer = _parted(merger, view)
    while finer != view:
        view = finer
        finer = _parted(merger, view)
    return view


def _parted(merger, view):
    """A grouping in which those of one group that merge unlike are parted."""
    signs = []
    for command in range(merger.commands):
        ahead = [_end_group(merger, view, command, other) for other in range(merger.commands)]
        behind = [_end_group(merger, view, other, command) for other in range(merger.commands)]
        signs.append((view[command], tuple(ahead), tuple(behind)))
    return numbered_signs(signs)


def finest_view(merger, pairs):
    """The view of most groups that puts some pairs together, or None."""
    if not is_sequence(pairs):
        raise Refused(pairs)
    for pair in pairs:
        if not is_row(pair, 2, 2) or not are_below(pair, merger.commands):
            raise Refused(pairs)
    view = _put_together(tuple(range(merger.commands)), pairs)
    while True:
        forced = _forced_pairs(merger, view)
        if forced is None:
            return None
        further = _put_together(view, forced)
        if further == view:
            return view
        view = further


def _put_together(view, pairs):
    """A grouping in which the commands of each pair are in one group, too."""
    groups = list(view)
    for one, other in pairs:
        kept, left = groups[one], groups[other]
        groups = [kept if group == left else group for group in groups]
    return numbered_signs(groups)


def _forced_pairs(merger, view):
    """The ends that a view has to put together; None if two never can be."""
    rows = merger.rows
    forced = []
    for one, other in product(range(merger.commands), range(merger.commands)):
        if view[one] != view[other]:
            continue
        for third in range(merger.commands):
            ends = ((rows[one][third], rows[other][third]), (rows[third][one], rows[third][other]))
            for end, like in ends:
                if end == like:
                    continue
                if end is None or end == -1 or like is None or like == -1:
                    return None
                forced.append((end, like))
    return forced
