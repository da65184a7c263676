"""How few commands to strike, or to put to a machine, so that the order does not matter."""

from itertools import combinations

from foursfold.errors import TooGreat
from foursfold.fours import first_four, uneven_middles
from foursfold.machines import check_machine
from foursfold.mergers import COMMAND_LIMIT, left_of, part_rows
from foursfold.things import things_of


def greatest_even(merger):
    """The least of the greatest tuples of commands whose own merger is even."""
    commands = list(range(merger.commands))
    for size in range(merger.commands, 1, -1):
        for part in combinations(commands, size):
            if _is_even_part(merger.rows, part):
                return part
    # Any command by itself is even.
    return (0,)


def even_number(merger):
    """How many tuples of commands, one at least, have an even merger."""
    commands = list(range(merger.commands))
    many = 0
    for size in range(1, merger.commands + 1):
        many += sum([_is_even_part(merger.rows, part) for part in combinations(commands, size)])
    return many


def _is_even_part(rows, part):
    """Whether the merger of some commands alone is even."""
    return len(uneven_middles(part_rows(rows, part))) == 0


def evened(machine, *, most=20000):
    """The fewest queues that, as further commands, make a machine even, or None."""
    tables = check_machine(machine)
    queues, ends = things_of(tables)
    commands = tuple(range(len(tables)))
    looked = 0
    choices = [()]
    for _ in range(COMMAND_LIMIT - len(tables) + 1):
        even = []
        longer = {}
        for choice in choices:
            if looked == most:
                raise TooGreat(most)
            looked += 1
            fixes = _fixes_of(ends, commands + choice)
            if len(fixes) == 0:
                even.append(choice)
            for thing in fixes:
                longer[tuple(sorted(choice + (thing,)))] = True
        if len(even) > 0:
            return tuple([queues[thing] for thing in min(even)])
        choices = list(longer)
    return None


def _fixes_of(ends, members):
    """Things of which one at least is to be put to some, so that they are even.

    If some four are uneven, they stay so until more of them merges than did.
    """
    found = first_four(part_rows(ends, members))
    if found is None:
        return []
    one, ahead, behind, other = [members[at] for at in found[0]]
    middle = ends[ahead][behind]
    fixes = [ends[one][ahead], ends[behind][other], left_of(ends, one, middle), left_of(ends, middle, other)]
    return [thing for thing in fixes if thing != -1 and thing not in members]
