"""Where a merger has queues of four commands that are not folded equally short.

Sets of commands are held as the bits of a number: bit c for the command c.
"""


def uneven_middles(rows):
    """The ascending (ahead, behind, firsts): the middles of such queues.

    Two commands that merge to a third one lose and win neighbours by that:
    those that merge with the near one of both, but not with the third one,
    and those that merge just the other way round. Four are uneven if either
    neighbour is lost, or one is lost and the other one won. The firsts are
    the bits of all commands that begin four with these two in the middle.
    """
    aheads, behinds = merging_bits(rows)
    middles = []
    for ahead, row in enumerate(rows):
        near = aheads[ahead]
        for behind, end in enumerate(row):
            # If both go, it does not matter whether they do.
            if end is None or end == -1:
                continue
            firsts = 0
            if behinds[behind] & ~behinds[end]:
                firsts = near ^ aheads[end]
            elif behinds[behind] != behinds[end]:
                firsts = near & ~aheads[end]
            if firsts:
                middles.append((ahead, behind, firsts))
    return middles


def merging_bits(rows):
    """By command, as bits: what merges with it from ahead, what from behind."""
    aheads = [0] * len(rows)
    behinds = []
    for one, row in enumerate(rows):
        bits = 0
        for other, end in enumerate(row):
            if end is not None:
                bits = bits | 1 << other
                aheads[other] = aheads[other] | 1 << one
        behinds.append(bits)
    return aheads, behinds


def bits_in(bits):
    """The ascending commands of some that are held as bits."""
    return [at for at in range(bits.bit_length()) if bits >> at & 1]
