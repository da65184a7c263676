"""Points 48 and 49: what barriers cost, and batches."""

import unittest
from itertools import product
from time import perf_counter

from foursfold.barriers import barrier_costs, batches, idle_barriers
from foursfold.courts import uneven_four
from foursfold.errors import BadQueue, Refused, Uneven
from foursfold.keys import Keys
from foursfold.mergers import Merger

from evens import FREE, LIFT, TWICE, drawn_evens, small_evens
from itemwise import drawn_items, drawn_keys, ends_of
from plainly import Drawn
from samples import CELL, LAST, SUMS, SWAPPED, TURNS
from test_keys import any_items, item_fault, keys_of
from wrong import ErrorChecks, alike, any_values, is_below


def even_pool(seed):
    return drawn_evens(seed, 40, 3) + small_evens(60) + [CELL, TURNS, LAST, TWICE, LIFT]


def left(tables, marks, items):
    """How many items are left, by looking at all ways."""
    (many,) = {len(end) for end in ends_of(tables, marks, tuple(items))}
    return many


def with_one_more(rows):
    """The rows of barriers with one more that merges with none."""
    rows = () if rows is None else rows
    return tuple(row + (None,) for row in rows) + ((None,) * (len(rows) + 1),)


class Costs(ErrorChecks, unittest.TestCase):
    def test_one_barrier_more(self):
        drawn = Drawn(481)
        for tables, marks in drawn_keys(482, even_pool(483), 250):
            items = drawn_items(drawn, tables, marks, drawn.below(9))
            many, wider = left(tables, marks, items), with_one_more(marks)
            want = []
            for place in range(len(items) + 1):
                split = items[:place] + ((None, len(wider) - 1),) + items[place:]
                want.append(left(tables, wider, split) - 1 - many)
            self.assertTrue(alike(barrier_costs(keys_of(tables, marks), list(items)), tuple(want)))

    def test_idle_barriers(self):
        drawn, seen = Drawn(484), 0
        for tables, marks in drawn_keys(485, even_pool(486), 300):
            items = drawn_items(drawn, tables, marks, drawn.below(10))
            many = left(tables, marks, items)
            want = tuple(
                at for at, item in enumerate(items)
                if item[0] is None and left(tables, marks, items[:at] + items[at + 1:]) == many - 1
            )
            self.assertTrue(alike(idle_barriers(keys_of(tables, marks), list(map(list, items))), want))
            seen += len(want) > 1
        self.assertGreater(seen, 20)

    def test_the_edges(self):
        plain, keys = Keys([Merger(CELL)]), Keys([Merger(CELL)] * 2, Merger(CELL))
        self.assertEqual((barrier_costs(plain, []), idle_barriers(plain, [])), ((0,), ()))
        self.assertEqual(barrier_costs(keys=plain, items=[(0, 0), (0, 1), (0, 1)]), (0, 2, 0, 0))
        self.assertEqual(barrier_costs(keys, [(0, 0), (1, 1), (0, 1)]), (0, 2, 2, 0))
        self.assertEqual(idle_barriers(keys=keys, items=[(None, 0), (None, 1)]), ())
        self.assertEqual(idle_barriers(keys, [(None, 0), (0, 0), (None, 0)]), (0, 2))
        self.assertEqual(idle_barriers(keys, [(0, 0), (None, 0), (0, 1)]), ())
        self.assertEqual(idle_barriers(keys, [(0, 0), (None, 0), (1, 0)]), (1,))
        # Barriers that go: what stands on either side is one stretch.
        self.assertEqual(barrier_costs(keys, [(0, 0), (None, 0), (None, 1), (0, 1)]), (0, 2, 4, 2, 0))

    def test_wrong_items(self):
        for tables, marks in (([CELL, TURNS], CELL), ([CELL], None)):
            keys = keys_of(tables, marks)
            for value in any_items():
                at = item_fault(value, tables, marks)
                if at is not None:
                    for function in (barrier_costs, idle_barriers):
                        self.raises(BadQueue, at, function, keys, value)
                    self.raises(BadQueue, at, batches, keys, value, 0)

    def test_uneven_comes_last(self):
        for mergers, marks in (([CELL, SUMS], None), ([SUMS, SWAPPED], CELL), ([CELL], SUMS)):
            keys, four = keys_of(mergers, marks), uneven_four(Merger(SUMS))[1]
            for function in (barrier_costs, idle_barriers):
                self.raises(Uneven, four, function, keys, [(0, 0)])
                self.raises(BadQueue, 0, function, keys, [(0, 3)])
            self.raises(BadQueue, 0, batches, keys, [(0, 3)], 0)
            self.raises(Refused, 0, batches, keys, [(0, 0)], 0)
            self.raises(Uneven, four, batches, keys, [(0, 0)], 1)
        barred = [(0, 0), (None, 0)]
        self.raises(Refused, barred, batches, keys, barred, 0)


class Batches(ErrorChecks, unittest.TestCase):
    def best(self, tables, items, width):
        """(number, places), by looking at all cuts."""
        found = []
        for cuts in product((False, True), repeat=max(0, len(items) - 1)):
            places = tuple(at + 1 for at, cut in enumerate(cuts) if cut)
            ends = list(zip((0,) + places, places + (len(items),)))
            if all(last - first <= width for first, last in ends):
                many = sum(left(tables, None, items[first:last]) for first, last in ends)
                found.append((many, len(places), places))
        return min(found)[0], min(found)[2]

    def test_all_cuts(self):
        drawn = Drawn(491)
        for tables, marks in drawn_keys(492, even_pool(493), 120):
            items = drawn_items(drawn, tables, None, drawn.below(10))
            for width in (1, 2, 3, 4, 1 + drawn.below(10), 400):
                got = batches(keys_of(tables, marks), list(items), width)
                self.assertTrue(alike(got, self.best(tables, items, width)), (tables, items, width))

    def test_the_edges(self):
        keys = Keys([Merger(CELL), Merger(FREE)], Merger(CELL))
        for width in (1, 2, 400):
            self.assertEqual(batches(keys=keys, items=[], width=width), (0, ()))
            self.assertEqual(batches(keys, [(0, 0)], width), (1, ()))
        self.assertEqual(batches(keys, [(0, 0), (0, 1), (0, 0)], 1), (3, (1, 2)))
        self.assertEqual(batches(keys, [(0, 0), (0, 1), (0, 0)], 2), (1, (1,)))
        self.assertEqual(batches(keys, [(0, 0), (0, 1), (0, 0)], 3), (1, ()))
        # As few left and as few cuts: the least places.
        self.assertEqual(batches(keys, [(1, 0)] * 5, 3), (5, (2,)))
        self.assertEqual(batches(keys, [(1, 0)] * 7, 3), (7, (1, 4)))

    def test_wrong_values(self):
        for keys in (Keys([Merger(CELL)], Merger(CELL)), Keys([Merger(CELL)])):
            for value in any_values() + [399, 400, 401, 10000]:
                if is_below(value, 401) and value > 0:
                    self.assertEqual(batches(keys, [(0, 0), (0, 0)], value)[0], 2)
                else:
                    self.raises(Refused, value, batches, keys, [(0, 0), (0, 0)], value)
            for items in ([(0, 0)] * 401, ((0, 1),) * 10000):
                self.raises(Refused, items, batches, keys, items, 0)
                self.raises(BadQueue, -1, batches, keys, items * 25 + items[:1], 0)
            self.assertEqual(batches(keys, [(0, 0)] * 400, 400), (400, ()))
        for items in ([(None, 0)], [(0, 0), (None, 1)], ((None, 0),) * 400):
            self.raises(Refused, items, batches, Keys([Merger(CELL)], Merger(CELL)), items, None)
            self.raises(BadQueue, len(items) // 2 if len(items) < 3 else 0, batches, Keys([Merger(CELL)]), items, None)


class Limits(unittest.TestCase):
    def test_four_hundred_items(self):
        drawn = Drawn(495)
        turn = tuple(tuple((one + other) % 12 for other in range(12)) for one in range(12))
        cell = tuple(tuple(-1 if one + other == 11 else None for other in range(12)) for one in range(12))
        start = perf_counter()
        for rows in (turn, cell, ((None,) * 12,) * 12):
            for tables in ([rows] * 8, [rows]):
                keys = keys_of(tables, rows)
                items = drawn_items(drawn, tables, rows, 400)
                costs = barrier_costs(keys, items)
                self.assertEqual((len(costs), costs[0], costs[400]), (401, 0, 0))
                self.assertLessEqual(len(idle_barriers(keys, items)), 400)
                items = drawn_items(drawn, tables, None, 400)
                self.assertEqual(batches(keys, items, 400)[1], ())
                self.assertEqual(batches(keys, items, 1), (400, tuple(range(1, 400))))
                self.assertGreaterEqual(len(batches(keys, items, 20)[1]), 19)
        self.assertLess(perf_counter() - start, 6)

    def test_soon(self):
        keys = Keys([Merger(CELL), Merger(TURNS)], Merger(CELL))
        items = [(0, 0), (1, 1), (0, 1), (None, 0), (0, 1), (1, 0)]
        start = perf_counter()
        for _ in range(300):
            barrier_costs(keys, items)
            idle_barriers(keys, items)
            batches(keys, items[:3] + items[4:], 3)
        self.assertLess(perf_counter() - start, 1)


if __name__ == "__main__":
    unittest.main()
