"""What chapter 10 says, done the slow way. Nothing here uses the package.

Keys are a list of rows by key, and rows of barriers or None.
"""

from plainly import Drawn
from slowly import class_of, over_pairs


def merges(tables, marks, items):
    """The ascending (i, j, end) of all merges, word for word as point 46 has them."""
    found = []
    for i, (key, command) in enumerate(items):
        for j in range(i + 1, len(items)):
            if items[j][0] != key:
                continue
            between = items[i + 1:j]
            if key is None and between:
                continue
            if key is not None and any(item[0] is None or item[0] == key for item in between):
                continue
            end = (marks if key is None else tables[key])[command][items[j][1]]
            if end is not None:
                found.append((i, j, end))
    return found


def merged(items, i, j, end):
    key = items[i][0]
    middle = () if end == -1 else ((key, end),)
    return items[:i] + middle + items[i + 1:j] + items[j + 1:]


def ends_of(tables, marks, items, known=None):
    """All that ways of items lead to where nothing merges any more."""
    known = {} if known is None else known
    if items not in known:
        further = merges(tables, marks, items)
        known[items] = {items} if not further else set()
        for i, j, end in further:
            known[items] |= ends_of(tables, marks, merged(items, i, j, end), known)
    return known[items]


def in_keys(items):
    """Items from barrier to barrier by key ascending, each key's in order."""
    told, stretch = [], []
    for item in items:
        if item[0] is None:
            told += sorted(stretch, key=lambda one: one[0]) + [item]
            stretch = []
        else:
            stretch.append(item)
    return tuple(told + sorted(stretch, key=lambda one: one[0]))


def plain_left(tables, marks, items):
    """The plain way, word for word as point 47 has it: what is left, item by item."""
    held = []
    for item in items:
        held.append(item)
        while True:
            key, command = held[-1]
            if key is None:
                other = len(held) - 2 if len(held) > 1 and held[-2][0] is None else None
            else:
                other = None
                for at in range(len(held) - 2, -1, -1):
                    if held[at][0] is None:
                        break
                    if held[at][0] == key:
                        other = at
                        break
            if other is None:
                break
            end = (marks if key is None else tables[key])[held[other][1]][command]
            if end is None:
                break
            del held[-1], held[other]
            if end == -1:
                break
            # What two merge to is the last one of its key: it may come last.
            held.append((key, end))
    return in_keys(held)


def runs_and_stretches(items, many):
    """Runs of barriers, and by key the commands ahead of, between and behind them."""
    runs, stretches = [], [[[] for _ in range(many)]]
    for key, command in items:
        if key is not None:
            stretches[-1][key].append(command)
        elif runs and not any(stretches[-1]):
            runs[-1].append(command)
        else:
            runs.append([command])
            stretches.append([[] for _ in range(many)])
    return runs, stretches


def alike_parts(tables, marks, one, other):
    """Whether what is left of two has alike runs and stretches, as point 47 tells it."""
    both = []
    for items in (one, other):
        runs, stretches = runs_and_stretches(plain_left(tables, marks, items), len(tables))
        told = [class_of(over_pairs(marks), tuple(run)) for run in runs]
        told += [
            class_of(over_pairs(tables[key]), tuple(queue))
            for stretch in stretches for key, queue in enumerate(stretch)
        ]
        both.append((len(runs), told))
    return both[0] == both[1]


def reached(tables, marks, items, length):
    """All items of at most a length to which merges, exchanges and what undoes them lead."""
    seen, waiting = {items}, [items]
    parts = {}
    for key, rows in list(enumerate(tables)) + ([(None, marks)] if marks else []):
        for one in range(len(rows)):
            for other in range(len(rows)):
                if rows[one][other] is not None:
                    parts.setdefault((key, rows[one][other]), []).append(((key, one), (key, other)))
    gone = [pair for (_, end), pairs in parts.items() if end == -1 for pair in pairs]
    while waiting:
        now = waiting.pop()
        further = []
        for at, (one, other) in enumerate(zip(now, now[1:])):
            if one[0] != other[0] and None not in (one[0], other[0]):
                further.append(now[:at] + (other, one) + now[at + 2:])
            if one[0] == other[0]:
                end = (marks if one[0] is None else tables[one[0]])[one[1]][other[1]]
                if end is not None:
                    further.append(now[:at] + (() if end == -1 else ((one[0], end),)) + now[at + 2:])
        if len(now) < length:
            for at, item in enumerate(now):
                further.extend(now[:at] + pair + now[at + 1:] for pair in parts.get(item, []))
        if len(now) < length - 1:
            for at in range(len(now) + 1):
                further.extend(now[:at] + pair + now[at:] for pair in gone)
        for one in further:
            if one not in seen:
                seen.add(one)
                waiting.append(one)
    return seen


def drawn_items(drawn, tables, marks, length):
    """Items, a third of them barriers where there are some."""
    items = []
    for _ in range(length):
        if marks and drawn.below(3) == 0:
            items.append((None, drawn.below(len(marks))))
        else:
            key = drawn.below(len(tables))
            items.append((key, drawn.below(len(tables[key]))))
    return tuple(items)


def drawn_keys(seed, pool, many, keys=3):
    """(tables, marks) of some mergers of a pool, without barriers in one of four."""
    drawn = Drawn(seed)
    return [
        ([drawn.pick(pool) for _ in range(1 + drawn.below(keys))], drawn.pick(pool) if drawn.below(4) else None)
        for _ in range(many)
    ]
