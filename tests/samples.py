"""Sound mergers of all kinds for the tests of chapters 4 and 5."""

from plainly import Drawn, all_mergers, drawn_machine, drawn_rows, is_sound, machine_rows

NONE = None
TURNS = ((1, -1, 2), (-1, 0, 2), (None, None, 2))
SUMS = ((1, 2, None), (2, None, None), (None, None, None))
LAST = ((0, 1), (0, 1))
CELL = ((None, -1), (-1, None))
# 1 goes up in 0 ahead of it, or in 2 behind it.
KEPT = ((None, 0, None), (None, None, 2), (None, None, None))
# 0 and 1 merge to 2, whichever is first; all else stays.
SWAPPED = ((None, 2, None), (2, None, None), (None, None, None))
# 1 is taken off 0 and put to 2, and nothing merges besides.
HANDED = (
    (None, 3, None, None, None), (None, None, 4, None, None),
    (None,) * 5, (None,) * 5, (None,) * 5,
)
# The least queue of its kind is (0, 1, 2, 3) in each of these.
LEFT = (
    (None, None, None, None, 6, None, None), (None, None, 4, None, None, None, None),
    (None, None, None, 5, None, None, None),
) + ((None,) * 7,) * 4
RIGHT = (
    (None, 4, None, None, None, None, None), (None, None, 5, None, None, None, None),
    (None,) * 7, (None,) * 7, (None,) * 7, (None, None, None, 6, None, None, None), (None,) * 7,
)
MIDDLE = (
    (None, 4, None, None, None, None, None), (None, None, 5, None, None, None, None),
    (None, None, None, 6, None, None, None),
) + ((None,) * 7,) * 4
HURRIED = (
    (None, 4) + (None,) * 4, (None, None, 5) + (None,) * 3, (None,) * 6, (None,) * 6, (None,) * 6,
    (None, None, None, 3, None, None),
)


def two_ends():
    """A merger of which five commands come to two things."""
    told = {(0, 1): 5, (1, 2): 6, (2, 3): 7, (3, 4): 8, (5, 7): 9, (9, 4): 0, (6, 8): 10, (0, 10): 1}
    return tuple(tuple(told.get((one, other)) for other in range(11)) for one in range(11))


def sums_to(most):
    """Parcels of 1, 2 .. pounds, put together up to some."""
    return tuple(
        tuple(one + other + 1 if one + other + 2 <= most else None for other in range(most)) for one in range(most)
    )


def words_rows(drawn, commands):
    """Commands are words of two letters, of which some may be put together."""
    words = [(0,), (1,)]
    while len(words) < commands:
        word = drawn.pick(words) + drawn.pick(words)
        if word not in words and len(word) < 6:
            words.append(word)
    number = {word: at for at, word in enumerate(words)}
    return tuple(tuple(number.get(one + other) for other in words) for one in words)


def named_ones():
    return [TURNS, SUMS, LAST, CELL, KEPT, SWAPPED, HANDED, LEFT, RIGHT, MIDDLE, HURRIED, two_ends(), sums_to(5)]


def drawn_ones(seed, many):
    """Drawn mergers of up to 7 commands, machines among them."""
    drawn = Drawn(seed)
    found = []
    while len(found) < many:
        kind = len(found) % 4
        commands = 2 + drawn.below(6)
        if kind == 0:
            rows = drawn_rows(drawn, commands, commands * commands, 1000)
        elif kind == 1:
            rows = drawn_rows(drawn, commands, 3 * commands * commands, 1 + drawn.below(8))
        elif kind == 2:
            rows = words_rows(drawn, commands + 1)
        else:
            rows = machine_rows(drawn_machine(drawn, 1 + drawn.below(4), 3 + drawn.below(2)))
        if is_sound(rows):
            found.append(rows)
    return found


def small_ones(step=1):
    """All mergers of 1 and 2 commands, and some of 3."""
    return all_mergers(1) + all_mergers(2) + all_mergers(3)[::step]
