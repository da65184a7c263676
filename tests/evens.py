"""Even mergers of all kinds for the tests of chapters 6 to 8."""

from foursfold.courts import is_even
from foursfold.mergers import Merger

from plainly import Drawn, drawn_machine, is_sound, machine_rows
from samples import CELL, HANDED, LAST, TURNS, small_ones, words_rows

NONE = None
LIFT = ((None, None, None, 4, None), (None, None, 3, None, None)) + ((None,) * 5,) * 3
# Nothing merges; all merges to the last one; one command that goes with itself.
FREE = ((None,) * 3,) * 3
DROPPED = ((0,),)
TWICE = ((-1,),)
STEPS = ((0, None), (1, 1))
# The heads of these are safe behind so many commands.
DEPTHS = {
    3: (
        (None, 5, None, None, 2, None), (None,) * 6, (None,) * 6, (None, None, 3, None, 1, None), (None,) * 6,
        (None,) * 6,
    ),
    4: (
        (None, None, 1, None, None, None), (None, 1, None, None, None, 1), (None,) * 6,
        (None, None, None, 3, None, 5), (None, None, 0, None, None, 2), (None,) * 6,
    ),
    5: (
        (None, None, None, None, 0, None), (0, -1, None, None, None, None), (None,) * 6,
        (None, None, 0, None, 2, 4), (None,) * 6, (None,) * 6,
    ),
    6: (
        (0, None, None, None, None, None), (None, 1, 1, None, 4, None), (0, None, -1, None, None, 5),
        (None, None, None, None, 0, 4), (None,) * 6, (None,) * 6,
    ),
}
# Classes with cuts that double from place to place.
WIDE = (
    (None,) * 7, (None, None, 1, None, None, None, None), (None, None, None, 0, None, 0, None), (None,) * 7,
    (None, None, None, 0, None, None, None), (None,) * 7, (None, None, 1, None, 0, None, None),
)

# Of these some kept sums go round in circles of 2, and of 3.
ROUND_2 = ((None, 2, 1), (2, None, None), (1, None, None))
ROUND_3 = (
    (None, None, None, 4, None, None), (None, None, None, 0, None, None), (None,) * 6,
    (None, None, 5, None, None, None), (None, None, None, 1, None, None), (None,) * 6,
)

# Without a ring, and with something to be handed over.
ENDED = (
    ((0, 0, 0, None), (0, 0, 0, None), (0, 0, 2, 3), (0, 0, None, 3)),
    ((0, 0, 0, 0), (0, 1, None, None), (None, 3, 2, 3), (None, 3, 2, 3)),
    ((0, 0, 0, 0), (0, 0, 1, 1), (0, 0, 2, 3), (None, None, 3, 3)),
    ((1, 1, 3, None), (1, 1, None, None), (2, 2, 2, 2), (3, 3, 3, 3)),
    (
        (0, 0, 0, 0, 0), (0, 0, 1, 1, 1), (None, None, 3, 2, None), (0, 0, 2, 3, None), (0, 1, 2, 3, -1),
    ),
)

# Notes that are parted by three or four commands only.
PARTED = (
    ((-1, None, None, None), (1, 1, None, None), (2, 2, 2, None), (None, 1, None, 3)),
    (
        (None, 4, None, None, None), (None,) * 5, (None, 3, None, None, None), (None,) * 5,
        (None, 2, None, None, None),
    ),
    (
        (None, None, None, None, None, 4), (None, None, None, 1, None, 0), (None, None, None, None, None, 1),
        (None, None, None, -1, None, None), (None, None, None, None, None, 2), (None,) * 6,
    ),
)


def upwards(commands):
    """What is folded goes up to a greater command, once; so there is no ring."""
    return tuple(tuple(one if other <= one else None for other in range(commands)) for one in range(commands))


def nine():
    """The merger of the example of chapter 6."""
    rows = [[None] * 9 for _ in range(9)]
    rows[1][2], rows[3][4], rows[0][3], rows[2][7] = 5, 5, 6, 8
    return tuple(map(tuple, rows))


def amalgam(common, one, other):
    """Turns of two circles that have some turns in common, alone and together.

    All turns of common * one, all of common * other, but for the idle one;
    every one-th of these and every other-th of those are the same turns.
    """
    names = []
    for part, many in ((0, one), (1, other)):
        for turn in range(1, common * many):
            name = ("both", turn // many) if turn % many == 0 else (part, turn)
            if name not in names:
                names.append(name)

    def turn_in(name, part, many):
        if name[0] == "both":
            return name[1] * many
        return name[1] if name[0] == part else None

    def end_of(ahead, behind):
        for part, many in ((0, one), (1, other)):
            turns = turn_in(ahead, part, many), turn_in(behind, part, many)
            if None not in turns:
                turn = sum(turns) % (common * many)
                if turn == 0:
                    return -1
                return names.index(("both", turn // many) if turn % many == 0 else (part, turn))
        return None

    return tuple(tuple(end_of(ahead, behind) for behind in names) for ahead in names)


def is_even_rows(rows):
    return is_sound(rows) and is_even(Merger(rows))


def drawn_even(drawn, commands, tries, gone):
    """Rows of an even merger: cells are told as long as all stays even."""
    rows = [[None] * commands for _ in range(commands)]
    for _ in range(tries):
        one, other = drawn.below(commands), drawn.below(commands)
        before = rows[one][other]
        rows[one][other] = -1 if drawn.below(gone) == 0 else drawn.below(commands)
        if not is_even_rows(rows):
            rows[one][other] = before
    return tuple(map(tuple, rows))


def drawn_handing(drawn, commands, tries):
    """Like these, two cells at once, so that there is much to be handed over."""
    rows = [[None] * commands for _ in range(commands)]
    for _ in range(tries):
        one, middle, other = (drawn.below(commands) for _ in range(3))
        before = rows[one][middle], rows[middle][other]
        rows[one][middle], rows[middle][other] = drawn.below(commands), drawn.below(commands)
        if not is_even_rows(rows):
            rows[middle][other] = before[1]
            rows[one][middle] = before[0]
    return tuple(map(tuple, rows))


def named_evens():
    return [
        LIFT, FREE, DROPPED, TWICE, STEPS, LAST, CELL, HANDED, TURNS, WIDE, ROUND_2, ROUND_3, nine(),
        amalgam(2, 2, 2), amalgam(3, 2, 2), amalgam(2, 2, 3),
        upwards(3), upwards(4),
    ] + list(DEPTHS.values()) + list(ENDED) + list(PARTED)


def drawn_evens(seed, many, most=5):
    """Drawn even mergers of up to so many commands, machines among them."""
    drawn = Drawn(seed)
    found = []
    while len(found) < many:
        kind = len(found) % 5
        commands = 1 + drawn.below(most)
        if kind in (0, 1):
            rows = drawn_even(drawn, commands, commands + drawn.below(3 * commands * commands), 1 + drawn.below(9))
        elif kind in (2, 3):
            rows = drawn_handing(drawn, commands + 1, 3 + drawn.below(3 * commands))
        elif drawn.below(2):
            rows = words_rows(drawn, commands + 1)
        else:
            rows = machine_rows(drawn_machine(drawn, 1 + drawn.below(3), 3))
        if is_even_rows(rows):
            found.append(rows)
    return found


def small_evens(step=1):
    """All even mergers of 1 and 2 commands, and some of 3."""
    return [rows for rows in small_ones(step) if is_even_rows(rows)]
