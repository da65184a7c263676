"""Verdicts on mergers: whether it matters which neighbours merge first."""

from foursfold.errors import Refused, Uneven
from foursfold.fours import bits_in, first_four, kind_of, kinds_behind, merging_bits, uneven_middles
from foursfold.mergers import check_queue

KINDS = ("middle", "left", "right")


def hand_triples(merger):
    """The ascending threes of which either two merge, but never all."""
    _, behinds = merging_bits(merger.rows)
    triples = []
    for one, row in enumerate(merger.rows):
        for middle, end in enumerate(row):
            # If two of three go, the third one is left: then all three merge.
            if end is None or end == -1:
                continue
            lost = behinds[middle] & ~behinds[end]
            if lost:
                triples.extend([(one, middle, other) for other in bits_in(lost)])
    return tuple(triples)


def four_kind(merger, queue):
    """The kind of a queue of four whose folded queues are not equally long."""
    commands = check_queue(merger, queue)
    if len(commands) != 4:
        raise Refused(queue)
    return kind_of(merger.rows, commands)


def uneven_fours(merger):
    """The ascending pairs (queue, kind) of all queues of four with a kind."""
    middles = uneven_middles(merger.rows)
    pairs = []
    for one in range(merger.commands):
        for ahead, behind, firsts in middles:
            if firsts >> one & 1:
                pairs.extend(kinds_behind(merger.rows, (one, ahead, behind)))
    return tuple(pairs)


def uneven_four(merger):
    """(kind, queue) of the first queue of four with a kind, or None."""
    found = first_four(merger.rows)
    return None if found is None else (found[1], found[0])


def four_numbers(merger):
    """How many queues of four there are of each kind, by KINDS."""
    kinds = [kind for _, kind in uneven_fours(merger)]
    return tuple([kinds.count(kind) for kind in KINDS])


def is_even(merger):
    """Whether all folded queues of each queue are equally long."""
    return len(uneven_middles(merger.rows)) == 0


def need_even(merger):
    """The merger itself if it is even; Uneven for any other."""
    if not is_even(merger):
        raise Uneven(uneven_four(merger)[1])
    return merger


def single_three(merger):
    """The least queue of three with two folded queues, or None."""
    for three in hand_triples(merger):
        ahead, behind = hand_pairs(merger, three)
        if ahead != behind:
            return three
    return None


def hand_pairs(merger, three):
    """Both folded queues of a triple of hand_triples."""
    one, middle, other = three
    return (merger.rows[one][middle], other), (one, merger.rows[middle][other])


def is_single(merger):
    """Whether each queue has one folded queue."""
    return single_three(merger) is None


def bag_queue(merger):
    """The first queue with two folded queues of unlike bags, or None."""
    for three in hand_triples(merger):
        ahead, behind = hand_pairs(merger, three)
        if sorted(ahead) != sorted(behind):
            return three
    # If no three have unlike bags, a four has them only if its folded queues
    # are not equally long: where two of its ways part, their queues have one
    # bag, and keep one if both merge further, or neither does.
    found = uneven_four(merger)
    return None if found is None else found[1]


def merger_word(merger):
    """The first of the words for a merger that is so."""
    if not is_even(merger):
        return "uneven"
    if len(hand_triples(merger)) == 0:
        return "clear"
    if is_single(merger):
        return "single"
    if bag_queue(merger) is None:
        return "bag"
    return "even"
