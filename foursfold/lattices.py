"""Rows of integers, their sums and differences: plain elimination."""

from math import gcd


def _less(row, other, times):
    """A row less so many times another one."""
    return [one - times * two for one, two in zip(row, other)]


def _first_column(row):
    """The index of the first number that is not 0, None if all are."""
    for column, number in enumerate(row):
        if number != 0:
            return column
    return None


def stairs_of(rows):
    """By first column, rows whose sums and differences are those of all rows."""
    stairs = {}
    for row in rows:
        left = list(row)
        column = _first_column(left)
        while column is not None:
            if column not in stairs:
                stairs[column] = left
                break
            kept, left = _cleared(stairs[column], left, column)
            stairs[column] = kept
            column = _first_column(left)
    return stairs


def _cleared(kept, left, column):
    """Two rows that give the same sums, the second one with 0 in a column."""
    while left[column] != 0:
        kept, left = left, _less(kept, left, kept[column] // left[column])
    return kept, left


def is_sum_of(stairs, row):
    """Whether a row is a sum of rows of stairs, each some times or less."""
    left = list(row)
    column = _first_column(left)
    while column is not None:
        if column not in stairs:
            return False
        stair = stairs[column]
        if left[column] % stair[column] != 0:
            return False
        left = _less(left, stair, left[column] // stair[column])
        column = _first_column(left)
    return True


def _without_divisor(row):
    """A row by its greatest common divisor, the first number above 0."""
    column = _first_column(row)
    divisor = 0
    for number in row:
        divisor = gcd(divisor, number)
    if row[column] < 0:
        divisor = -divisor
    return [number // divisor for number in row]


def _alone(stairs):
    """Like stairs, of fractions, whose first columns are 0 in all other rows."""
    columns = sorted(stairs)
    alone = {}
    for column in columns[::-1]:
        row = _without_divisor(stairs[column])
        for behind in sorted(alone):
            other = alone[behind]
            row = [other[behind] * one - row[behind] * two for one, two in zip(row, other)]
        alone[column] = _without_divisor(row)
    return alone


def rows_against(rows, width):
    """The reduced rows of width numbers whose products with all rows are 0."""
    # Stairs are made from the right: then each column without one leads a row
    # in which only columns behind it are not 0.
    alone = _alone(stairs_of([row[::-1] for row in rows]))
    against = []
    for column in range(width):
        if width - 1 - column not in alone:
            against.append(tuple(_without_divisor(_row_against(alone, width, column))))
    return tuple(against)


def _row_against(alone, width, column):
    """The row against all stairs, told from the right, led by a column."""
    times = 1
    for first in sorted(alone):
        times = times * alone[first][first]
    row = [0] * width
    row[column] = times
    for first in sorted(alone):
        stair = alone[first]
        row[width - 1 - first] = -(stair[width - 1 - column] * times // stair[first])
    return row


def circle_sizes(rows):
    """The divisors, each of the next one, of the group with these sums 0.

    There are as many as there are stairs.
    """
    stairs = stairs_of(rows)
    left = [stairs[column] for column in sorted(stairs)]
    sizes = []
    while len(left) > 0:
        left = _pivot_ahead(left)
        sizes.append(abs(left[0][0]))
        left = [row[1:] for row in left[1:]]
    return sizes


def _pivot_ahead(rows):
    """Like rows, the first number dividing all, the only one in its row and column."""
    while True:
        rows = _least_ahead(rows)
        if not _is_clear(rows):
            rows = _once_less(rows)
            continue
        rest = _undivided_row(rows)
        if rest is None:
            return rows
        rows = [[one + two for one, two in zip(rows[0], rest)]] + rows[1:]


def _least_ahead(rows):
    """Rows and columns changed round: the least number that is not 0 first."""
    _, at, column = min([
        (abs(number), at, column) for at, row in enumerate(rows) for column, number in enumerate(row) if number != 0
    ])
    rows = [rows[at]] + rows[:at] + rows[at + 1:]
    return [[row[column]] + row[:column] + row[column + 1:] for row in rows]


def _is_clear(rows):
    """Whether the first row and the first column are 0 but for the first number."""
    return not any(rows[0][1:]) and not any([row[0] for row in rows[1:]])


def _once_less(rows):
    """Rows, and then columns, less the first one as often as may be."""
    first = rows[0][0]
    rows = [rows[0]] + [_less(row, rows[0], row[0] // first) for row in rows[1:]]
    times = [0] + [number // first for number in rows[0][1:]]
    return [[number - row[0] * many for number, many in zip(row, times)] for row in rows]


def _undivided_row(rows):
    """The first row with a number that the first number does not divide."""
    for row in rows[1:]:
        if any([number % rows[0][0] != 0 for number in row]):
            return row
    return None
