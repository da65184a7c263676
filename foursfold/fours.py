"""Queues of four commands whose folded queues are not equally long.

Sets of commands are held as the bits of a number: bit c for the command c.
"""


def uneven_middles(rows):
    """The ascending (ahead, behind, firsts): the middles of such queues.

    Two commands that merge to a third one lose and win neighbours by that:
    those that merge with the near one of both, but not with the third one,
    and those that merge just the other way round. Four are uneven if either
    neighbour is lost, or one is lost and the other one won. The firsts are
    the bits of all commands that begin four with these two in the middle.
    """
    aheads, behinds = merging_bits(rows)
    middles = []
    for ahead, row in enumerate(rows):
        near = aheads[ahead]
        for behind, end in enumerate(row):
            # If both go, it does not matter whether they do.
            if end is None or end == -1:
                continue
            firsts = 0
            if behinds[behind] & ~behinds[end]:
                firsts = near ^ aheads[end]
            elif behinds[behind] != behinds[end]:
                firsts = near & ~aheads[end]
            if firsts:
                middles.append((ahead, behind, firsts))
    return middles


def merging_bits(rows):
    """By command, as bits: what merges with it from ahead, what from behind."""
    aheads = [0] * len(rows)
    behinds = []
    for one, row in enumerate(rows):
        bits = 0
        for other, end in enumerate(row):
            if end is not None:
                bits = bits | 1 << other
                aheads[other] = aheads[other] | 1 << one
        behinds.append(bits)
    return aheads, behinds


def bits_in(bits):
    """The ascending commands of some that are held as bits."""
    return [at for at in range(bits.bit_length()) if bits >> at & 1]


def kind_of(rows, four):
    """The kind of a checked queue of four, or None."""
    one, ahead, behind, other = four
    middle = rows[ahead][behind]
    # Unless the two in the middle merge, no two merges overlap; and if they
    # go, it does not matter which of the two is made.
    if middle is None or middle == -1:
        return None
    merges_one = rows[one][ahead] is not None
    merges_other = rows[behind][other] is not None
    # In a sound merger these tell of all three, from either side.
    all_ahead = rows[one][middle] is not None
    all_behind = rows[middle][other] is not None
    if merges_one and merges_other and not all_ahead and not all_behind:
        return "middle"
    if merges_other and all_ahead and not merges_one and not all_behind:
        return "left"
    if merges_one and all_behind and not merges_other and not all_ahead:
        return "right"
    return None


def kinds_behind(rows, three):
    """The ascending (queue, kind) of all fours that begin with three commands."""
    pairs = []
    for last in range(len(rows)):
        four = three + (last,)
        kind = kind_of(rows, four)
        if kind is not None:
            pairs.append((four, kind))
    return pairs


def first_four(rows):
    """The first queue of four with a kind, and its kind, or None."""
    threes = [(bits_in(firsts)[0], ahead, behind) for ahead, behind, firsts in uneven_middles(rows)]
    return None if len(threes) == 0 else kinds_behind(rows, min(threes))[0]
