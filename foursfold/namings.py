"""Renamings: mergers that are one another but for the names of their commands."""

from foursfold.errors import TooGreat
from foursfold.views import numbered_signs


def renaming(one, other):
    """The least names that make one merger another one, None if there are none."""
    if one.commands != other.commands:
        return None
    return _names_from(one.rows, other.rows, _allowed_names(one.rows, other.rows), (), {})


def own_renamings(merger, *, most=5000):
    """How many renamings lead a merger to itself."""
    rows = merger.rows
    allowed = _allowed_names(rows, rows)
    many = 1
    # Those that keep all names ahead of a command give it some names, each one
    # equally often: so how many they are is told by products.
    for command in range(len(rows) - 1, -1, -1):
        kept = [[name] for name in range(command)]
        names = 0
        for name in allowed[command]:
            if _names_from(rows, rows, kept + [[name]] + allowed[command + 1:], (), {}) is not None:
                names += 1
        many = many * names
        if many > most:
            raise TooGreat(most)
    return many


def _names_from(one, other, allowed, names, forced):
    """The least names that begin so, of those that are allowed; None if there are none.

    forced tells of commands without a name the one that they must have.
    """
    at = len(names)
    if at == len(one):
        return names
    for name in allowed[at]:
        if name in names or forced.get(at, name) != name:
            continue
        longer = names + (name,)
        further = _forced_by(one, other, longer, forced)
        if further is not None:
            found = _names_from(one, other, allowed, longer, further)
            if found is not None:
                return found
    return None


def _forced_by(one, other, names, forced):
    """What is forced with one name more; None if it can't be given."""
    at = len(names) - 1
    further = {command: forced[command] for command in forced}
    for before in range(at + 1):
        for pair in ((before, at), (at, before)):
            end = one[pair[0]][pair[1]]
            like = other[names[pair[0]]][names[pair[1]]]
            if end is None or end == -1 or like is None or like == -1:
                if end != like:
                    return None
            elif end <= at:
                if names[end] != like:
                    return None
            elif like in names or further.setdefault(end, like) != like:
                return None
    return further


def _allowed_names(one, other):
    """By command of one merger, the ascending ones of the other that are like it.

    They are told apart by colours, numbers that no renaming changes.
    """
    many = len(one)
    colours = (0,) * (2 * many)
    finer = numbered_signs(_signs(one, colours[:many]) + _signs(other, colours[many:]))
    while finer != colours:
        colours = finer
        finer = numbered_signs(_signs(one, colours[:many]) + _signs(other, colours[many:]))
    return [[name for name in range(many) if colours[many + name] == colour] for colour in colours[:many]]


def _signs(rows, colours):
    """By command its colour, and what it merges to with commands of what colours."""
    signs = []
    for one, row in enumerate(rows):
        told = []
        for other, end in enumerate(row):
            told.append((colours[other], _end_colour(colours, end), _end_colour(colours, rows[other][one])))
        signs.append((colours[one], tuple(sorted(told))))
    return signs


def _end_colour(colours, end):
    """The colour of what two commands merge to."""
    if end is None:
        return -2
    return -1 if end == -1 else colours[end]
