"""Hand-overs: a command is taken off one neighbour and put to the other."""

from foursfold.checks import are_below, is_below, is_row
from foursfold.courts import hand_pairs, hand_triples
from foursfold.errors import Refused, TooGreat
from foursfold.mergers import check_command, check_queue, places_of


def over_threes(merger):
    """By two neighbours, by the pair a hand-over makes of them: the three.

    The first two of the three merge to a command, and the last two: the one
    makes the neighbours, the other one the pair.
    """
    threes = {}
    for three in hand_triples(merger):
        ahead, behind = hand_pairs(merger, three)
        if ahead != behind:
            threes.setdefault(ahead, {}).setdefault(behind, three)
            threes.setdefault(behind, {}).setdefault(ahead, three)
    return threes


def over_table(merger):
    """By two neighbours, the ascending pairs that hand-overs make of them."""
    threes = over_threes(merger)
    return {neighbours: tuple(sorted(threes[neighbours])) for neighbours in threes}


def overs_of(table, queue):
    """The ascending (place, pair) of a folded queue, by an over_table."""
    overs = []
    for place, neighbours in enumerate(list(zip(queue, queue[1:]))):
        for pair in table.get(neighbours, ()):
            overs.append((place, pair))
    return overs


def with_pair(queue, place, pair):
    """The queue with another pair of neighbours at a place."""
    return queue[:place] + pair + queue[place + 2:]


def come_from(table, first, last, most):
    """By queue that hand-overs lead to: the one ahead of it, place and pair.

    All queues of a class are told, or those up to the last one if it is among
    them, those of fewer hand-overs first.
    """
    known = {first: None}
    waiting = [first]
    at = 0
    while at < len(waiting) and last not in known:
        queue = waiting[at]
        at += 1
        for place, pair in overs_of(table, queue):
            further = with_pair(queue, place, pair)
            if further in known:
                continue
            if len(known) == most:
                raise TooGreat(most)
            known[further] = (queue, place, pair)
            waiting.append(further)
            if further == last:
                break
    return known


def folded_of(merger, queue):
    """The queue as a tuple; BadQueue, or Refused if it is not folded."""
    commands = check_queue(merger, queue)
    if len(places_of(merger.rows, commands)) > 0:
        raise Refused(queue)
    return commands


def pair_overs(merger, one, other):
    """The ascending pairs that hand-overs make of two that do not merge."""
    check_command(merger, one)
    check_command(merger, other)
    if merger.rows[one][other] is not None:
        raise Refused((one, other))
    return over_table(merger).get((one, other), ())


def hand_overs(merger, queue):
    """The ascending (place, pair) of all hand-overs of a folded queue."""
    commands = folded_of(merger, queue)
    return tuple(overs_of(over_table(merger), commands))


def handed_over(merger, queue, place, pair):
    """The folded queue behind a hand-over at a place."""
    commands = folded_of(merger, queue)
    if not is_below(place, len(commands) - 1):
        raise Refused(place)
    pairs = over_table(merger).get(commands[place:place + 2], ())
    if not is_row(pair, 2, 2) or not are_below(pair, merger.commands) or tuple(pair) not in pairs:
        raise Refused(pair)
    return with_pair(commands, place, tuple(pair))
