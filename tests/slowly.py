"""What chapters 6 to 8 say, done the slow way. Nothing here uses the package."""

from itertools import product

from plainly import plain_of


def left(rows, queue):
    """How many commands are left of a queue of an even merger."""
    return len(plain_of(rows, tuple(queue))[0])


def folded_all(rows, length):
    """All folded queues of a length, ascending."""
    found = [()]
    for _ in range(length):
        found = [
            queue + (command,) for queue in found for command in range(len(rows))
            if not queue or rows[queue[-1]][command] is None
        ]
    return found


def folded_to(rows, length):
    """All folded queues to a length."""
    return [queue for many in range(length + 1) for queue in folded_all(rows, many)]


def queues_to(commands, length):
    """All queues to a length, the shortest first, then ascending."""
    return [queue for many in range(length + 1) for queue in product(range(commands), repeat=many)]


def is_end(end):
    return end is not None and end != -1


def made_pairs(rows, one, other):
    """The pairs that hand-overs make of two, word for word as point 24 has them."""
    numbers = range(len(rows))
    found = set()
    for a, b, c in product(numbers, repeat=3):
        ab, bc = rows[a][b], rows[b][c]
        if is_end(ab) and is_end(bc):
            if (one, other) == (ab, c):
                found.add((a, bc))
            if (one, other) == (a, bc):
                found.add((ab, c))
    return sorted(found - {(one, other)})


def over_pairs(rows):
    """By two that do not merge, what hand-overs make of them."""
    return {
        (one, other): made_pairs(rows, one, other)
        for one in range(len(rows)) for other in range(len(rows)) if rows[one][other] is None
    }


def overs(pairs, queue):
    """The (place, pair) of a folded queue, by over_pairs."""
    return [
        (place, pair) for place in range(len(queue) - 1) for pair in pairs[queue[place], queue[place + 1]]
    ]


def handed(queue, place, pair):
    return queue[:place] + tuple(pair) + queue[place + 2:]


def ranks(pairs, first):
    """By queue of a class: how many hand-overs it is away from one."""
    found = {first: 0}
    waiting = [first]
    for queue in waiting:
        for place, pair in overs(pairs, queue):
            other = handed(queue, place, pair)
            if other not in found:
                found[other] = found[queue] + 1
                waiting.append(other)
    return found


def class_of(pairs, queue):
    """All queues of the class of a folded queue, ascending."""
    return sorted(ranks(pairs, queue))


def cuts_at(pairs, queues, at):
    """The cuts of a class, each as its queues, by the least ones."""
    return sorted({tuple(class_of(pairs, queue[:at])) for queue in queues})


def told_graph(pairs, queue):
    """The steps of class_graph."""
    queues = class_of(pairs, queue)
    layers = [cuts_at(pairs, queues, at) for at in range(len(queue) + 1)]
    steps = []
    for at in range(len(queue)):
        found = set()
        for one in queues:
            cut = layers[at].index(tuple(class_of(pairs, one[:at])))
            behind = layers[at + 1].index(tuple(class_of(pairs, one[:at + 1])))
            found.add((cut, one[at], behind))
        steps.append(tuple(sorted(found)))
    return tuple(steps)


def ways_told(steps):
    """The ways from 0 to 0 through steps, and by i, by cut, the beginnings."""
    layers = [{0: [()]}]
    for rows in steps:
        further = {}
        for cut, command, behind in rows:
            for way in layers[-1].get(cut, []):
                further.setdefault(behind, []).append(way + (command,))
        layers.append(further)
    return layers[-1].get(0, []), layers


def graph_tells(pairs, queue, steps):
    """Whether steps of the right form tell a class, as point 26 words it."""
    if len(steps) != len(queue):
        return False
    cuts = {0}
    for rows in steps:
        if {row[0] for row in rows} != cuts or len({row[:2] for row in rows}) != len(rows):
            return False
        cuts = {row[2] for row in rows}
    if cuts != {0}:
        return False
    ways, layers = ways_told(steps)
    if sorted(ways) != class_of(pairs, queue):
        return False
    for layer in layers:
        for beginnings in layer.values():
            if len({tuple(class_of(pairs, one)) for one in beginnings}) > 1:
                return False
    return True
