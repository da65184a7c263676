"""What the stretches of a queue come to, each by itself.

A thing is a command, or -1 for nothing. Things are held as the bits of a
number: bit 0 for nothing, bit c + 1 for the command c.
"""

from foursfold.mergers import left_of

NOTHING_BIT = 1


def thing_bit(thing):
    """The number that holds one thing."""
    return 1 << (thing + 1)


def things_in(bits):
    """The ascending things that a number holds."""
    return [at - 1 for at in range(bits.bit_length()) if bits >> at & 1]


def commands_in(bits):
    """The ascending commands that a number holds."""
    return [thing for thing in things_in(bits) if thing != -1]


def span_table(rows, queue):
    """By first index and index behind the last, what the stretch comes to.

    The last step to one thing is always between two stretches side by side:
    both come to commands that merge, or one of them has come to nothing.
    """
    table = [[0] * (len(queue) + 1) for _ in range(len(queue) + 1)]
    known = {}
    for first in range(len(queue) - 1, -1, -1):
        table[first][first + 1] = thing_bit(queue[first])
        for last in range(first + 2, len(queue) + 1):
            bits = 0
            for middle in range(first + 1, last):
                pair = (table[first][middle], table[middle][last])
                if pair not in known:
                    known[pair] = _joined(rows, pair[0], pair[1])
                bits = bits | known[pair]
            table[first][last] = bits
    return table


def _joined(rows, ahead, behind):
    """What two stretches side by side come to, by what each comes to."""
    bits = 0
    for one in things_in(ahead):
        for other in things_in(behind):
            end = left_of(rows, one, other)
            if end is not None:
                bits = bits | thing_bit(end)
    return bits


def span_way(rows, table, span, place):
    """Places that merge a stretch that begins at a place to a thing.

    The span is the stretch's first index, the index behind its last one, and
    the thing, one to which it comes.
    """
    first, last, _ = span
    if last - first == 1:
        return []
    ahead, behind = _some_halves(rows, table, span)
    way = span_way(rows, table, ahead, place)
    if ahead[2] == -1:
        return way + span_way(rows, table, behind, place)
    way = way + span_way(rows, table, behind, place + 1)
    if behind[2] != -1:
        way.append(place)
    return way


def _some_halves(rows, table, span):
    """Two spans side by side that come to the thing of a span."""
    first, last, thing = span
    for middle in range(first + 1, last):
        for one in things_in(table[first][middle]):
            for other in things_in(table[middle][last]):
                if left_of(rows, one, other) == thing:
                    return (first, middle, one), (middle, last, other)
    return None


def spans_way(rows, table, spans):
    """Places that merge a whole queue, span by span."""
    way = []
    place = 0
    for span in spans:
        way.extend(span_way(rows, table, span, place))
        if span[2] != -1:
            place += 1
    return tuple(way)
