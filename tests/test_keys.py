"""Points 46 and 47: commands of several keys, and barriers."""

import unittest
from time import perf_counter

from foursfold import classes
from foursfold.courts import is_even, uneven_four
from foursfold.errors import BadQueue, Refused, TooGreat, Uneven
from foursfold.keys import (
    Keys, alike_items, check_items, is_keyed_folded, keyed_merges, left_number, merge_items, plain_items,
)
from foursfold.mergers import Merger

from evens import FREE, HANDED, LIFT, STEPS, TWICE, WIDE, drawn_evens, nine, small_evens
from itemwise import alike_parts, drawn_items, drawn_keys, ends_of, in_keys, merged, merges, plain_left, reached
from plainly import HUGE, Drawn, nested
from samples import CELL, LAST, SUMS, SWAPPED, TURNS, drawn_ones, small_ones
from wrong import ErrorChecks, alike, any_values, is_below, is_list, no_lists


def keys_of(tables, marks):
    return Keys([Merger(rows) for rows in tables], None if marks is None else Merger(marks))


def even_pool(seed, many):
    return drawn_evens(seed, many, 3) + small_evens(60) + [CELL, TURNS, LAST, TWICE]


def any_pool(seed, many):
    return [rows for rows in drawn_ones(seed, many) if len(rows) < 6] + small_ones(90) + [SUMS, SWAPPED]


def both_pools(seed, many):
    """(tables, marks, items): of any mergers, and of even ones."""
    drawn = Drawn(seed)
    for pool in (even_pool(seed, 40), any_pool(seed, 40)):
        for tables, marks in drawn_keys(seed + 1, pool, many):
            yield tables, marks, drawn_items(drawn, tables, marks, drawn.below(9))


def item_fault(value, tables, marks):
    """The index that BadQueue is to carry, None for items."""
    if not is_list(value) or len(value) > 10000:
        return -1
    for at, item in enumerate(value):
        if not is_list(item) or len(item) != 2:
            return at
        key, command = item
        if key is None:
            if marks is None or not is_below(command, len(marks)):
                return at
        elif not is_below(key, len(tables)) or not is_below(command, len(tables[key])):
            return at
    return None


def any_items():
    """Any values, many of them nearly items."""
    pairs = [
        (0, 0), [0, 1], (1, 2), (None, 0), [None, 1], (None, 2), (2, 0), (0, 2), (1, 3), (-1, 0), (0, -1), (True, 0),
        (0, False), (0, None), (None, None), (None, True), (0, 0, 0), (0,), (), "00", 7, None, Merger(CELL), [[0], 0],
        (0, [0]), (HUGE, 0), (0, HUGE), (None, -1), nested(39), ("0", 0), (0, "0"), (Merger(CELL), 0),
    ]
    return any_values() + [[pair] for pair in pairs] + [((0, 1), pair) for pair in pairs] + [
        [(0, 0)] * 10000, [(0, 0)] * 10001, ((0, 0),) * 10001, pairs[:4], pairs[:5],
    ]


class Making(ErrorChecks, unittest.TestCase):
    def test_attributes(self):
        for many in (1, 3, 8):
            keys = Keys([Merger(CELL)] * many, Merger(TURNS))
            self.assertTrue(alike(keys.mergers, (Merger(CELL),) * many))
            self.assertEqual(keys.barriers, Merger(TURNS))
            self.assertIs(type(keys.mergers), tuple)
        self.assertIsNone(Keys([Merger(CELL)]).barriers)
        self.assertIsNone(Keys(mergers=(Merger(CELL),), barriers=None).barriers)

    def test_equal(self):
        one, other = Merger(CELL), Merger(TURNS)
        self.assertEqual(Keys([one, other], one), Keys((Merger(CELL), Merger(TURNS)), Merger(CELL)))
        self.assertEqual(Keys([one]), Keys((Merger(CELL),)))
        for unlike in (Keys([one]), Keys([other, one], one), Keys([one, other], other), Keys([one, other]), one, None, 0):
            self.assertNotEqual(Keys([one, other], one), unlike)
            self.assertNotEqual(unlike, Keys([one, other], one))
        self.assertNotEqual(Keys([one]), ((one,), None))

    def test_refused(self):
        merger = Merger(CELL)
        wrong = [[merger] * 9, (merger,) * 9, [], (), [merger, None], [merger, CELL], [[merger]], merger]
        for value in any_values() + wrong:
            if type(value) is list and len(value) == 1 and isinstance(value[0], Merger):
                self.assertEqual(Keys(value).mergers, tuple(value))
                continue
            self.raises(Refused, value, Keys, value)
            self.raises(Refused, value, Keys, value, 7)
            self.raises(Refused, value, Keys, mergers=value, barriers=merger)
            if value is not None and not isinstance(value, Merger):
                self.raises(Refused, value, Keys, [merger], value)
        self.raises(Refused, CELL, Keys, [merger], CELL)

    def test_later_changes_have_no_effect(self):
        mergers = [Merger(CELL), Merger(TURNS)]
        keys = Keys(mergers)
        mergers.pop()
        self.assertEqual(len(keys.mergers), 2)


class Items(ErrorChecks, unittest.TestCase):
    def test_any_value(self):
        for tables, marks in (([CELL, TURNS], CELL), ([CELL], None), ([TURNS, CELL], None), ([FREE] * 8, TWICE)):
            keys = keys_of(tables, marks)
            for value in any_items():
                at = item_fault(value, tables, marks)
                called = [
                    (check_items, ()), (keyed_merges, ()), (merge_items, (0, 1)), (is_keyed_folded, ()),
                    (plain_items, ()), (left_number, ()),
                ]
                if at is None:
                    self.assertTrue(alike(check_items(keys, value), tuple(map(tuple, value))))
                    self.assertTrue(alike(check_items(keys=keys, value=value), tuple(map(tuple, value))))
                else:
                    for function, rest in called:
                        self.raises(BadQueue, at, function, keys, value, *rest)
                    self.raises(BadQueue, at, alike_items, keys, value, 7)
                    self.raises(BadQueue, at, alike_items, keys, [(0, 0)], value)

    def test_uneven_comes_last(self):
        bad, good = Merger(SUMS), Merger(CELL)
        for mergers, marks, four in (
            ([bad], None, SUMS), ([good, bad, Merger(SWAPPED)], None, SUMS), ([good], Merger(SWAPPED), SWAPPED),
            ([good, Merger(SWAPPED)], bad, SWAPPED),
        ):
            keys = Keys(mergers, marks)
            queue = uneven_four(Merger(four))[1]
            for function in (left_number, lambda keys, items: alike_items(keys, items, [(0, 1)], most=1)):
                self.raises(Uneven, queue, function, keys, [])
                self.raises(Uneven, queue, function, keys, [(0, 0)])
                self.raises(BadQueue, 1, function, keys, [(0, 0), (0, 3)])
            self.raises(BadQueue, -1, alike_items, keys, [], 7)
            # What takes any mergers goes on.
            self.assertEqual(plain_items(keys, [(0, 0)]), ((0, 0),))
            self.assertTrue(is_keyed_folded(keys, [(0, 0)]))


class Merges(ErrorChecks, unittest.TestCase):
    def test_merges(self):
        for tables, marks, items in both_pools(461, 250):
            keys, told = keys_of(tables, marks), merges(tables, marks, items)
            pairs = tuple((i, j) for i, j, _ in told)
            self.assertTrue(alike(keyed_merges(keys, list(map(list, items))), pairs))
            self.assertIs(is_keyed_folded(keys=keys, items=items), not told)
            for i, j, end in told:
                self.assertTrue(alike(merge_items(keys, items, i, j), merged(items, i, j, end)))
            for i in range(-1, len(items) + 1):
                for j in range(-1, len(items) + 1):
                    if (i, j) not in pairs:
                        self.raises_pair((i, j), keys, items)

    def raises_pair(self, pair, keys, items):
        with self.assertRaises(Refused) as caught:
            merge_items(keys, items, *pair)
        self.assertTrue(alike(caught.exception.at, pair))

    def test_any_indexes(self):
        keys = Keys([Merger(CELL)] * 2, Merger(CELL))
        items = [(0, 0), (0, 1), (1, 0), (None, 0), (None, 1)]
        self.assertEqual(keyed_merges(keys, items), ((0, 1), (3, 4)))
        for value in any_values() + [3, 4, 5]:
            if not (type(value) is int and value == 0):
                self.raises_pair((value, 1), keys, items)
            if not (type(value) is int and value == 1):
                self.raises_pair((0, value), keys, items)
            self.raises_pair((value, value), keys, items)
        self.raises_pair((False, True), keys, items)
        self.assertEqual(merge_items(keys=keys, items=items, one=3, other=4), ((0, 0), (0, 1), (1, 0)))

    def test_what_stands_between(self):
        keys = Keys([Merger(CELL), Merger(TURNS)], Merger(CELL))
        for between, merging in (
            ([], True), ([(1, 0)], True), ([(1, 0), (1, 2)], True), ([(0, 0)], False), ([(None, 0)], False),
            ([(1, 0), (None, 1)], False),
        ):
            items = [(0, 0)] + between + [(0, 1)]
            self.assertEqual((0, len(items) - 1) in keyed_merges(keys, items), merging)
        for between, merging in (([], True), ([(0, 0)], False), ([(None, 0)], False)):
            items = [(None, 0)] + between + [(None, 1)]
            self.assertEqual((0, len(items) - 1) in keyed_merges(keys, items), merging)
        # What two merge to stands where the first one stood.
        self.assertEqual(merge_items(keys, [(1, 0), (0, 0), (1, 0)], 0, 2), ((1, 1), (0, 0)))


class PlainWay(unittest.TestCase):
    def test_plain_items(self):
        for tables, marks, items in both_pools(471, 300):
            keys = keys_of(tables, marks)
            left = plain_items(keys, list(items))
            self.assertTrue(alike(left, plain_left(tables, marks, items)), (tables, marks, items))
            self.assertTrue(is_keyed_folded(keys, left))
            self.assertIn(left, {in_keys(end) for end in ends_of(tables, marks, items)})

    def test_as_many_left_whichever_way(self):
        for tables, marks in drawn_keys(473, even_pool(474, 40), 300):
            items = drawn_items(Drawn(len(tables) + 475), tables, marks, 8)
            many = {len(end) for end in ends_of(tables, marks, items)}
            self.assertEqual(many, {left_number(keys_of(tables, marks), items)})
            self.assertEqual(left_number(keys=keys_of(tables, marks), items=items), len(plain_left(tables, marks, items)))

    def test_an_uneven_merger_shows(self):
        for rows in any_pool(476, 60):
            if is_even(Merger(rows)):
                continue
            four = uneven_four(Merger(rows))[1]
            for tables, marks, key in (([CELL, rows], None, 1), ([rows], CELL, 0), ([CELL], rows, None)):
                items = tuple((key, command) for command in four)
                self.assertGreater(len({len(end) for end in ends_of(tables, marks, items)}), 1)

    def test_barriers_that_go(self):
        keys = Keys([Merger(CELL)] * 2, Merger(CELL))
        self.assertEqual(plain_items(keys, [(1, 0), (None, 0), (0, 0), (0, 1), (None, 1), (0, 0), (1, 1)]), ((0, 0),))
        self.assertEqual(plain_items(keys, [(None, 0), (None, 0), (None, 1), (None, 1)]), ())
        self.assertEqual(plain_items(keys, [(1, 0), (0, 1), (None, 0), (1, 0)]), ((0, 1), (1, 0), (None, 0), (1, 0)))
        self.assertEqual(plain_items(keys, []), ())
        turns = Keys([Merger(CELL)], Merger(TURNS))
        self.assertEqual(plain_items(turns, [(None, 0), (0, 0), (0, 1), (None, 0), (None, 0), (0, 0)]), ((0, 0),))
        self.assertEqual(left_number(turns, [(None, 0), (0, 0), (None, 0)]), 3)

    def test_without_barriers(self):
        keys = Keys([Merger(CELL), Merger(LAST)])
        self.assertEqual(plain_items(keys, [(1, 0), (0, 0), (1, 1), (0, 0)]), ((0, 0), (0, 0), (1, 1)))


class Alike(ErrorChecks, unittest.TestCase):
    def pairs(self, seed, many, pool, length):
        """Keys and two queues of items; half the second ones come of the first."""
        drawn = Drawn(seed)
        for tables, marks in drawn_keys(seed, pool, many, 2):
            one = drawn_items(drawn, tables, marks, drawn.below(length + 1))
            other = drawn_items(drawn, tables, marks, drawn.below(length + 1))
            if drawn.below(2):
                near = sorted(reached(tables, marks, one, len(one)), key=str)
                other = drawn.pick(near)
            yield tables, marks, one, other

    def test_runs_and_stretches(self):
        seen = {True: 0, False: 0}
        pool = drawn_evens(481, 40, 3) + [CELL, TURNS, HANDED, LIFT, nine()]
        for tables, marks, one, other in self.pairs(482, 300, pool, 5):
            want = alike_parts(tables, marks, one, other)
            self.assertIs(alike_items(keys_of(tables, marks), one, list(other)), want, (tables, marks, one, other))
            seen[want] += one != other
        self.assertGreater(min(seen.values()), 40)

    def test_what_chains_lead_to(self):
        # Merges, exchanges of unlike keys, and what undoes these: the same in each house.
        drawn, seen = Drawn(483), 0
        for tables, marks in drawn_keys(484, small_evens(25) + [HANDED], 120, 2):
            if len(tables) * len(tables[0]) > 6:
                continue
            one = drawn_items(drawn, tables, marks, 1 + drawn.below(4))
            all_alike = reached(tables, marks, one, len(one) + 2) if len(one) < 3 else reached(tables, marks, one, len(one))
            keys = keys_of(tables, marks)
            for other in sorted(all_alike, key=str)[:40]:
                self.assertIs(alike_items(keys, one, other), True)
            for _ in range(10):
                other = drawn_items(drawn, tables, marks, len(one))
                if other not in reached(tables, marks, one, len(one) + 2):
                    self.assertIs(alike_items(keys, one, other), False)
                    seen += 1
        self.assertGreater(seen, 100)

    def test_handed_over(self):
        keys = Keys([Merger(nine()), Merger(CELL)], Merger(HANDED))
        one = [(0, 0), (0, 1), (1, 0), (0, 8), (None, 0), (None, 4)]
        other = [(1, 0), (0, 6), (0, 4), (0, 7), (None, 3), (None, 2)]
        self.assertIs(alike_items(keys=keys, one=one, other=other), True)
        self.assertIs(alike_items(keys, one, other[:-1]), False)
        self.assertIs(alike_items(keys, one, [(1, 1)] + other[1:]), False)
        self.assertIs(alike_items(keys, one + [(1, 0)], other + [(1, 0)]), True)
        self.assertIs(alike_items(keys, one + [(1, 0)], other[1:] + [(1, 0)]), False)
        self.assertIs(alike_items(keys, [], []), True)
        # As many runs: something between them, or nothing.
        self.assertIs(alike_items(keys, [(None, 0), (1, 0), (None, 0)], [(None, 0), (None, 0), (1, 0)]), False)

    def test_most(self):
        keys = Keys([Merger(CELL), Merger(nine())], Merger(CELL))
        items = [(1, 0), (1, 1), (1, 8), (None, 0), (1, 0)]
        many = sum(classes.cut_numbers(Merger(nine()), (0, 1, 8)))
        self.assertEqual(many, 6)
        for most in range(1, many + 3):
            if most < many:
                self.raises(TooGreat, most, alike_items, keys, items, items, most=most)
            else:
                self.assertIs(alike_items(keys, items, items, most=most), True)
            # Nothing else is searched: these are not equally long, or in unlike runs.
            self.assertIs(alike_items(keys, items, items[1:], most=most), False)
            self.assertIs(alike_items(keys, items, items[:3] + items[4:], most=most), False)
            self.assertIs(alike_items(keys, [], [], most=most), True)
        unlike = [(1, 0), (1, 1), (1, 8), (None, 0), (1, 1)]
        try:
            self.assertIs(alike_items(keys, items, unlike, most=1), False)
        except TooGreat as error:
            self.assertEqual(error.most, 1)
        self.assertIs(alike_items(keys, items, unlike, most=6), False)
        with self.assertRaises(TypeError):
            alike_items(keys, items, items, 100)

    def test_most_by_default(self):
        wide = Keys([Merger(WIDE)])
        items = [(0, command) for command in (0,) + (1,) * 13 + (0,)]
        self.raises(TooGreat, 10000, alike_items, wide, items, items)
        self.assertIs(alike_items(wide, items, items, most=16398), True)
        self.assertIs(alike_items(wide, items[:1] + items[2:], items[:1] + items[2:]), True)


class Limits(unittest.TestCase):
    def test_long_queues_of_eight_keys(self):
        drawn = Drawn(491)
        turn = tuple(tuple((one + other) % 12 for other in range(12)) for one in range(12))
        cell = tuple(tuple(-1 if one + other == 11 else None for other in range(12)) for one in range(12))
        start = perf_counter()
        for rows in (turn, cell, ((None,) * 12,) * 12):
            keys = keys_of([rows] * 8, rows)
            items = drawn_items(drawn, [rows] * 8, rows, 400)
            self.assertTrue(no_lists(check_items(keys, [list(item) for item in items])))
            left = plain_items(keys, items)
            self.assertEqual(left_number(keys, items), len(left))
            self.assertIs(alike_items(keys, items, left), True)
            long = drawn_items(drawn, [rows] * 8, rows, 10000)
            self.assertTrue(is_keyed_folded(keys, plain_items(keys, long)))
            for pair in keyed_merges(keys, long)[:1]:
                self.assertLess(len(merge_items(keys, long, *pair)), 10000)
        self.assertLess(perf_counter() - start, 3)

    def test_soon(self):
        keys = Keys([Merger(CELL), Merger(TURNS)], Merger(CELL))
        items = [(0, 0), (1, 1), (0, 1), (None, 0), (0, 1), (1, 0)]
        start = perf_counter()
        for _ in range(300):
            left_number(keys, items)
            alike_items(keys, items, items)
        self.assertLess(perf_counter() - start, 1)


if __name__ == "__main__":
    unittest.main()
