"""Walks in a graph, from node to node, by steps that gain something.

A graph tells by node its steps: (gain, node behind, told). Told are the
commands that a step puts below a queue, and those that it puts to it. No
walk that comes back to where it was has gained nothing.
"""


def greatest_gains(steps):
    """By node the greatest gain of all walks from it; without those of no end."""
    ahead = {}
    waits = {}
    for node in list(steps):
        waits[node] = len(steps[node])
        for step in steps[node]:
            ahead.setdefault(step[1], []).append(node)
    gains = {}
    ready = [node for node in list(steps) if waits[node] == 0]
    while len(ready) > 0:
        node = ready.pop()
        gains[node] = max([0] + [gain + gains[behind] for gain, behind, _ in steps[node]])
        for before in ahead.get(node, []):
            waits[before] -= 1
            if waits[before] == 0:
                ready.append(before)
    return gains


def walk_of(steps, start, wanted):
    """Some walk that gains as much or more, told as (queue, word), or None."""
    gains = greatest_gains(steps)
    if start in gains and gains[start] < wanted:
        return None
    below = []
    word = []
    node = start
    gained = 0
    while gained < wanted:
        gain, node, told = _best_step(steps, gains, node)
        gained += gain
        below.extend(told[0])
        word.extend(told[1])
    return tuple(below[::-1]), tuple(word)


def _best_step(steps, gains, node):
    """A step that keeps all that can still be gained from a node."""
    for step in steps[node]:
        gain, behind, _ = step
        if node not in gains and behind not in gains:
            return step
        if node in gains and gain + gains[behind] == gains[node]:
            return step
    return None
