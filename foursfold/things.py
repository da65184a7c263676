"""What queues of a machine's commands do, each thing once."""

from foursfold.errors import TooGreat
from foursfold.machines import idle_table, in_order

THING_LIMIT = 200


def things_of(machine):
    """(queues, ends): all unlike things that queues do, but for nothing at all.

    The first things are what single commands do. queues tells by thing the
    first queue that does it, by which the others are numbered; ends by two
    things the one that does both in order, -1 for nothing. TooGreat is raised
    if there are more than 200 others.
    """
    nexts, parents = _search(machine)
    queues = [(command,) for command in range(len(machine))]
    for before, command in parents:
        queues.append(queues[before] + (command,))
    ends = []
    for nexts_of_one in nexts:
        row = list(nexts_of_one)
        for before, command in parents:
            # What is done before is a lesser thing: it is told already.
            done = row[before]
            row.append(command if done == -1 else nexts[done][command])
        ends.append(row)
    return queues, ends


def _search(machine):
    """(nexts, parents) of the things, in the order of their first queues.

    nexts tells by thing, by command the thing that does both in order, -1 for
    nothing; parents, of all that no single command does, a thing and the
    command that it takes behind it.
    """
    tables = list(machine)
    numbers = {table: command for command, table in enumerate(tables)}
    numbers[idle_table(len(machine[0]))] = -1
    nexts = []
    parents = []
    while len(nexts) < len(tables):
        row = []
        for command, table in enumerate(machine):
            done = in_order(tables[len(nexts)], table)
            if done not in numbers:
                if len(parents) == THING_LIMIT:
                    raise TooGreat(THING_LIMIT)
                numbers[done] = len(tables)
                parents.append((len(nexts), command))
                tables.append(done)
            row.append(numbers[done])
        nexts.append(row)
    return nexts, parents
