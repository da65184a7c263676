"""What barriers cost, and batches that are folded each by itself."""

from foursfold.checks import is_below
from foursfold.errors import Refused
from foursfold.keys import check_items, need_even_keys
from foursfold.keyed import KeyedStretches, mirror_stretches, stretches_of

ITEM_LIMIT = 400


def barrier_costs(keys, items):
    """By place, how many items more are left if a new barrier is put there."""
    checked = check_items(keys, items)
    need_even_keys(keys)
    aheads = _numbers_left(stretches_of(keys, ()), checked)
    # From the right likewise: in even mergers as many are left.
    behinds = _numbers_left(mirror_stretches(keys), checked[::-1])[::-1]
    return tuple([ahead + behind - aheads[-1] for ahead, behind in zip(aheads, behinds)])


def _numbers_left(left, items):
    """How many items are left of the first ones, by how many these are."""
    numbers = [left.many]
    for item in items:
        left.put(item)
        numbers.append(left.many)
    return numbers


def idle_barriers(keys, items):
    """The ascending indexes of the barriers without which just one item less is left."""
    checked = check_items(keys, items)
    need_even_keys(keys)
    many = stretches_of(keys, checked).many
    idle = []
    for at, item in enumerate(checked):
        if item[0] is None and stretches_of(keys, checked[:at] + checked[at + 1:]).many == many - 1:
            idle.append(at)
    return tuple(idle)


def batches(keys, items, width):
    """(number, places): the fewest items that batches leave, and the cuts between them."""
    checked = check_items(keys, items)
    if len(checked) > ITEM_LIMIT or any([item[0] is None for item in checked]):
        raise Refused(items)
    if not is_below(width, ITEM_LIMIT + 1) or width == 0:
        raise Refused(width)
    need_even_keys(keys)
    tables = [merger.rows for merger in keys.mergers]
    # By how many items are ahead: the least (items left, batches) of the rest,
    # and the least end of its first batch for which it is so.
    bests = [(0, 0)]
    ends = [None]
    for first in range(len(checked) - 1, -1, -1):
        lefts = _numbers_left(KeyedStretches(tables, None), checked[first:first + width])[1:]
        ways = [(left + rest[0], rest[1] + 1) for left, rest in zip(lefts, bests[::-1])]
        bests.append(min(ways))
        ends.append(first + 1 + ways.index(min(ways)))
    return bests[-1][0], _places_of(ends[::-1])


def _places_of(ends):
    """The places of the cuts, by the end of the batch that begins at an index."""
    places = []
    at = 0
    while ends[at] is not None:
        at = ends[at]
        places.append(at)
    # The last batch ends where the items do: there is no cut.
    return tuple(places[:-1])
