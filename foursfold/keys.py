"""Commands of several keys in one queue, with barriers between."""

from foursfold.checks import QUEUE_LIMIT, is_below, is_row
from foursfold.classes import is_alike
from foursfold.courts import need_even
from foursfold.errors import BadQueue, Refused
from foursfold.mergers import Merger
from foursfold.keyed import is_bare, stretches_of

KEY_LIMIT = 8


class Keys:
    """A merger for each key, and one of barriers, or None."""

    def __init__(self, mergers, barriers=None):
        if not is_row(mergers, 1, KEY_LIMIT) or not all([isinstance(one, Merger) for one in mergers]):
            raise Refused(mergers)
        if barriers is not None and not isinstance(barriers, Merger):
            raise Refused(barriers)
        self.mergers = tuple(mergers)
        self.barriers = barriers

    def __eq__(self, other):
        return isinstance(other, Keys) and self.mergers == other.mergers and self.barriers == other.barriers


def check_items(keys, value):
    """A queue of items as tuples; BadQueue for any value that is none."""
    if not is_row(value, 0, QUEUE_LIMIT):
        raise BadQueue(-1)
    for at, item in enumerate(value):
        if not _is_item(keys, item):
            raise BadQueue(at)
    return tuple([tuple(item) for item in value])


def _is_item(keys, value):
    """Whether a value is a key with a command of it, or None with a barrier."""
    if not is_row(value, 2, 2):
        return False
    key, command = value
    if key is None:
        return keys.barriers is not None and is_below(command, keys.barriers.commands)
    return is_below(key, len(keys.mergers)) and is_below(command, keys.mergers[key].commands)


def _merger_of(keys, key):
    """The merger of a key, that of the barriers for None."""
    return keys.barriers if key is None else keys.mergers[key]


def _merging_pairs(keys, items):
    """The ascending pairs of indexes of checked items that merge."""
    pairs = []
    # By key, the last index since the last barrier; None for a barrier's.
    lasts = {}
    for at, item in enumerate(items):
        key, command = item
        if key in lasts:
            one = lasts[key]
            if _merger_of(keys, key).rows[items[one][1]][command] is not None:
                pairs.append((one, at))
        if key is None:
            lasts = {}
        elif None in lasts:
            # Something stands behind the barrier now.
            del lasts[None]
        lasts[key] = at
    return sorted(pairs)


def keyed_merges(keys, items):
    """The ascending pairs of indexes of items that merge and can be made neighbours."""
    return tuple(_merging_pairs(keys, check_items(keys, items)))


def merge_items(keys, items, one, other):
    """The items behind the merge of two: their end stands where the first one stood."""
    checked = check_items(keys, items)
    if not is_below(one, len(checked)) or not is_below(other, len(checked)):
        raise Refused((one, other))
    if (one, other) not in _merging_pairs(keys, checked):
        raise Refused((one, other))
    key, command = checked[one]
    end = _merger_of(keys, key).rows[command][checked[other][1]]
    middle = () if end == -1 else ((key, end),)
    return checked[:one] + middle + checked[one + 1:other] + checked[other + 1:]


def is_keyed_folded(keys, items):
    """Whether no two items merge."""
    return len(keyed_merges(keys, items)) == 0


def need_even_keys(keys):
    """Raise Uneven for the first merger that is not even, by key, then the barriers'."""
    for merger in keys.mergers:
        need_even(merger)
    if keys.barriers is not None:
        need_even(keys.barriers)


def plain_items(keys, items):
    """What the plain way leaves of items."""
    left = stretches_of(keys, check_items(keys, items))
    told = []
    for at, stretch in enumerate(left.stretches):
        if at > 0:
            told.append((None, left.barriers[at - 1]))
        for key, held in enumerate(stretch):
            told.extend([(key, command) for command in held])
    return tuple(told)


def left_number(keys, items):
    """How many items are left, whichever are merged first."""
    checked = check_items(keys, items)
    need_even_keys(keys)
    return stretches_of(keys, checked).many


def alike_items(keys, one, other, *, most=10000):
    """Whether two queues of items do the same in every house."""
    ahead = check_items(keys, one)
    behind = check_items(keys, other)
    need_even_keys(keys)
    parts = _parts_of(stretches_of(keys, ahead))
    others = _parts_of(stretches_of(keys, behind))
    if [_lengths_in(part) for part in parts] != [_lengths_in(part) for part in others]:
        return False
    # Parts are told in turns: what stands between runs, a run.
    for at, part in enumerate(parts):
        mergers = [keys.barriers] if at & 1 else keys.mergers
        for merger, queue, wanted in zip(mergers, part, others[at]):
            if len(queue) > 0 and not is_alike(merger, queue, wanted, most=most):
                return False
    return True


def _lengths_in(part):
    """The lengths of the queues of a part."""
    return [len(queue) for queue in part]


def _parts_of(left):
    """What stands ahead of the first run of barriers, the run, what stands behind, and so on.

    A run is a list of one queue, of barriers; what stands between two runs a
    list of queues, by key.
    """
    parts = [left.stretches[0]]
    for barrier, stretch in zip(left.barriers, left.stretches[1:]):
        if len(parts) > 1 and is_bare(parts[-1]):
            parts.pop()
            parts[-1][0].append(barrier)
        else:
            parts.append([[barrier]])
        parts.append(stretch)
    return parts
