"""Classes of folded queues: what hand-overs lead to, in even mergers."""

from foursfold.checks import is_below, is_row, is_sequence, is_whole
from foursfold.courts import need_even
from foursfold.cuts import ClassGraph
from foursfold.errors import Refused, TooGreat
from foursfold.folding import plain_fold
from foursfold.handing import come_from, folded_of, over_table
from foursfold.mergers import check_queue


def _graph_of(merger, queue, most):
    """The graph of the class of a value that is to be a folded queue."""
    commands = folded_of(merger, queue)
    return ClassGraph(need_even(merger), commands, most)


def cut_numbers(merger, queue, *, most=10000):
    """By i, how many cuts the class of a folded queue has."""
    return _graph_of(merger, queue, most).numbers


def class_graph(merger, queue, *, most=10000):
    """("class", steps): the ways through the cuts of a queue's class."""
    steps = []
    for leads in _graph_of(merger, queue, most).leads:
        steps.append(tuple([(cut, command, behind) for cut, row in enumerate(leads) for command, behind in row]))
    return "class", tuple(steps)


def class_size(merger, queue, *, most=10000):
    """How many queues the class of a folded queue has."""
    return _graph_of(merger, queue, most).rest_counts()[0][0]


def class_queue(merger, queue, number, *, most=10000):
    """The queue of a number, of the ascending queues of a class."""
    graph = _graph_of(merger, queue, most)
    counts = graph.rest_counts()
    if not is_below(number, counts[0][0]):
        raise Refused(number)
    left = number
    cut = 0
    commands = []
    for at, leads in enumerate(graph.leads):
        for command, behind in leads[cut]:
            many = counts[at + 1][behind]
            if left < many:
                commands.append(command)
                cut = behind
                break
            left = left - many
    return tuple(commands)


def class_place(merger, queue, other, *, most=10000):
    """The number of a folded queue in another's class, None if it is not of it."""
    commands = folded_of(merger, queue)
    wanted = folded_of(merger, other)
    graph = ClassGraph(need_even(merger), commands, most)
    if len(wanted) != len(commands):
        return None
    counts = graph.rest_counts()
    number = 0
    cut = 0
    for at, leads in enumerate(graph.leads):
        told = dict(leads[cut])
        if wanted[at] not in told:
            return None
        number += sum([counts[at + 1][behind] for command, behind in leads[cut] if command < wanted[at]])
        cut = told[wanted[at]]
    return number


def is_alike(merger, one, other, *, most=10000):
    """Whether two queues do the same in every house."""
    ahead = check_queue(merger, one)
    behind = check_queue(merger, other)
    need_even(merger)
    folded = plain_fold(merger, ahead)
    wanted = plain_fold(merger, behind)
    if len(folded) != len(wanted):
        return False
    return _is_told(ClassGraph(merger, folded, most).leads, wanted)


def _is_told(leads, queue):
    """Whether some way through cuts tells a queue of their length."""
    cut = 0
    for rows, command in zip(leads, queue):
        told = dict(rows[cut])
        if command not in told:
            return False
        cut = told[command]
    return True


def hand_way(merger, one, other, *, most=10000):
    """Some shortest row of hand-overs from one folded queue to another."""
    first = folded_of(merger, one)
    last = folded_of(merger, other)
    need_even(merger)
    if len(first) != len(last):
        return None
    known = come_from(over_table(merger), first, last, most)
    if last not in known:
        return None
    way = []
    queue = last
    while queue != first:
        queue, place, pair = known[queue]
        way.append((place, pair))
    return tuple(way[::-1])


def class_holds(merger, queue, value):
    """Whether a value is the ways through the cuts of a queue's class."""
    commands = folded_of(merger, queue)
    need_even(merger)
    leads = _told_leads(merger, len(commands), value)
    if leads is None:
        return False
    # Each cut has to be told, once at least: a class with more of them than
    # are told need not be looked at to its end.
    room = 1 + sum([len(_cuts_behind(told)) for told in leads])
    try:
        graph = ClassGraph(merger, commands, room)
    except TooGreat:
        return False
    return _tells_graph(graph, leads)


def _told_leads(merger, length, value):
    """By i, by cut, by command the cut behind, of any value; None if it has not the form."""
    if not is_row(value, 2, 2) or value[0] != "class" or not is_row(value[1], length, length):
        return None
    leads = []
    cuts = [0]
    for steps in value[1]:
        told = _told_steps(merger, steps)
        if told is None or sorted(told) != cuts:
            return None
        leads.append(told)
        cuts = _cuts_behind(told)
    return leads if cuts == [0] else None


def _told_steps(merger, steps):
    """By cut, by command the cut behind, of the steps of one i; None if they have not the form."""
    if not is_sequence(steps):
        return None
    told = {}
    for step in steps:
        if not is_row(step, 3, 3):
            return None
        cut, command, behind = step
        if not is_below(command, merger.commands) or not _is_number(cut) or not _is_number(behind):
            return None
        row = told.setdefault(cut, {})
        if command in row:
            return None
        row[command] = behind
    return told


def _is_number(value):
    """Whether a value is an integer from 0 on."""
    return is_whole(value) and value >= 0


def _cuts_behind(told):
    """The ascending cuts to which steps come."""
    return sorted({behind: True for row in list(told.values()) for behind in list(row.values())})


def _tells_graph(graph, leads):
    """Whether told steps are those of a graph, if cuts are told once or more."""
    # By cut that was told: the one that it is.
    known = {0: 0}
    for rows, told in zip(graph.leads, leads):
        further = {}
        for cut, row in told.items():
            steps = rows[known[cut]]
            if sorted(row) != [command for command, _ in steps]:
                return False
            for command, behind in steps:
                if further.setdefault(row[command], behind) != behind:
                    return False
        known = further
    return True
