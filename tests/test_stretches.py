"""Points 13 and 14: stretches, fewest and most."""

import unittest
from itertools import product

from foursfold.courts import is_even
from foursfold.errors import BadQueue, NoCommand, Refused
from foursfold.mergers import Merger
from foursfold.stretches import comes_to, fewest_left, fewest_way, most_left, most_way, one_way

from plainly import HUGE, Drawn, all_queues, drawn_machine, folded_of, go_way, machine_rows, places
from samples import CELL, HURRIED, SUMS, TURNS, drawn_ones, named_ones, small_ones, sums_to, two_ends, words_rows
from wrong import ErrorChecks, any_values, is_below, queue_fault


def single_ends(rows, queue):
    """All to which a queue can be merged: commands, -1 for nothing."""
    return tuple(sorted(end[0] if end else -1 for end in all_queues(rows, queue) if len(end) < 2))


def some_queues(drawn, rows, many, most):
    yield ()
    yield (drawn.below(len(rows)),)
    for _ in range(many):
        yield drawn.queue(len(rows), 2 + drawn.below(most - 1))


class Stretches(ErrorChecks, unittest.TestCase):
    def check_stretches(self, rows, queue):
        merger = Merger(rows)
        for first in range(len(queue)):
            for last in range(first + 1, len(queue) + 1):
                want = single_ends(rows, queue[first:last])
                self.assertEqual(comes_to(merger, list(queue), first, last), want)
                self.assertIs(type(comes_to(merger, queue, first, last)), tuple)

    def check_ways(self, rows, queue):
        ends = single_ends(rows, queue)
        for end in range(-1, len(rows)):
            way = one_way(Merger(rows), list(queue), end)
            if end not in ends:
                self.assertIsNone(way)
                continue
            self.assertIs(type(way), tuple)
            self.assertEqual(go_way(rows, queue, way), () if end == -1 else (end,))

    def test_small_mergers(self):
        for rows in small_ones(60):
            for queue in product(range(len(rows)), repeat=4):
                self.check_ways(rows, queue)
            self.check_stretches(rows, queue)

    def test_drawn_mergers(self):
        drawn = Drawn(61)
        for rows in named_ones() + drawn_ones(62, 100):
            for queue in some_queues(drawn, rows, 6, 7):
                self.check_stretches(rows, queue)
                self.check_ways(rows, queue)

    def test_two_things(self):
        merger = Merger(two_ends())
        self.assertEqual(comes_to(merger, (0, 1, 2, 3, 4), 0, 5), (0, 1))
        self.assertEqual(comes_to(merger, (9, 0, 1, 2, 3, 4, 9), 1, 6), (0, 1))
        for end in (0, 1):
            self.assertEqual(go_way(merger.rows, (0, 1, 2, 3, 4), one_way(merger, (0, 1, 2, 3, 4), end)), (end,))
        self.assertIsNone(one_way(merger, (0, 1, 2, 3, 4), 2))

    def test_one_thing_at_most(self):
        drawn = Drawn(63)
        for rows in named_ones() + drawn_ones(64, 80) + small_ones(100):
            if not is_even(Merger(rows)):
                continue
            for queue in some_queues(drawn, rows, 4, 9):
                if queue:
                    self.assertLess(len(comes_to(Merger(rows), queue, 0, len(queue))), 2)
        for _ in range(60):
            rows = machine_rows(drawn_machine(drawn, 2 + drawn.below(4), 3 + drawn.below(3)))
            queue = drawn.queue(len(rows), 2 + drawn.below(10))
            self.assertLess(len(comes_to(Merger(rows), queue, 0, len(queue))), 2)

    def test_stretches_refused(self):
        merger, queue = Merger(TURNS), (0, 1, 0)
        for value in any_values() + [3, 4]:
            if is_below(value, 3):
                self.raises(Refused, value, comes_to, merger, queue, value, value)
            else:
                self.raises(Refused, value, comes_to, merger, queue, value, "later")
            self.raises(Refused, value, comes_to, merger, (), value, value)
            if is_below(value, 4) and value > 1:
                self.assertEqual(comes_to(merger, queue, 1, value), ((1,), (-1,))[value - 2])
            else:
                self.raises(Refused, value, comes_to, merger, queue, 1, value)
        self.raises(BadQueue, 1, comes_to, merger, (0, 3), 9, 9)
        self.raises(Refused, 9, comes_to, merger, (0, 2), 9, 9)
        self.assertEqual(comes_to(last=3, first=0, queue=queue, merger=merger), (0,))

    def test_ends_refused(self):
        merger = Merger(TURNS)
        for value in any_values() + [3]:
            if type(value) is int and -1 <= value < 3:
                one_way(merger, (0, 1, 0), value)
                continue
            for queue in ((), (0,), (0, 1, 0), (2, 0)):
                self.raises(NoCommand, value, one_way, merger, queue, value)
        self.raises(BadQueue, 0, one_way, merger, (3,), 3)

    def test_short_queues(self):
        merger = Merger(TURNS)
        self.assertEqual(one_way(merger, (), -1), ())
        self.assertIsNone(one_way(merger, [], 0))
        self.assertEqual(one_way(merger, (2,), 2), ())
        self.assertIsNone(one_way(merger, (2,), 1))
        self.assertIsNone(one_way(merger, (2,), -1))
        self.assertEqual(one_way(end=-1, queue=[0, 1], merger=merger), (0,))
        self.assertEqual(comes_to(merger, (2,), 0, 1), (2,))

    def test_bad_queues(self):
        for value in any_values():
            at = queue_fault(value, 3)
            if at is None:
                continue
            self.raises(BadQueue, at, comes_to, Merger(TURNS), value, 0, 1)
            self.raises(BadQueue, at, one_way, Merger(TURNS), value, 0)
            for function in (fewest_left, most_left, fewest_way, most_way):
                self.raises(BadQueue, at, function, Merger(TURNS), value)


class FewestAndMost(unittest.TestCase):
    def check(self, rows, queue):
        merger, folded = Merger(rows), folded_of(rows, queue)
        fewest, most = min(map(len, folded)), max(map(len, folded))
        self.assertEqual(fewest, min(map(len, all_queues(rows, queue))))
        self.assertEqual(fewest_left(merger, queue), fewest)
        self.assertEqual(most_left(merger, list(queue)), most)
        for function, left in ((fewest_way, fewest), (most_way, most)):
            way = function(merger, list(queue))
            self.assertIs(type(way), tuple)
            self.assertEqual(len(go_way(rows, queue, way)), left)
            self.assertEqual(places(rows, go_way(rows, queue, way)), [])

    def test_small_mergers(self):
        for rows in small_ones(60):
            for length in range(5):
                for queue in product(range(len(rows)), repeat=length):
                    self.check(rows, queue)

    def test_drawn_mergers(self):
        drawn = Drawn(65)
        unlike = 0
        for rows in named_ones() + drawn_ones(66, 140):
            for queue in some_queues(drawn, rows, 8, 9):
                self.check(rows, queue)
                unlike += fewest_left(Merger(rows), queue) < most_left(Merger(rows), queue)
        self.assertGreater(unlike, 30)

    def test_named_ones(self):
        self.assertEqual((fewest_left(Merger(CELL), (0, 1)), most_left(Merger(CELL), (0, 1))), (0, 0))
        self.assertEqual((fewest_left(Merger(CELL), ()), most_left(Merger(CELL), ())), (0, 0))
        self.assertEqual((fewest_way(Merger(CELL), ()), most_way(Merger(CELL), [1])), ((), ()))
        self.assertEqual((fewest_left(Merger(SUMS), (0, 0, 1, 0)), most_left(Merger(SUMS), (0, 0, 1, 0))), (2, 3))
        self.assertEqual(fewest_left(queue=(0, 1, 2, 3, 3), merger=Merger(HURRIED)), 3)
        self.assertEqual(most_left(queue=(0, 1, 2, 3, 3), merger=Merger(HURRIED)), 4)
        self.assertEqual(len(fewest_way(queue=(0, 1, 2, 3, 3), merger=Merger(HURRIED))), 2)
        self.assertEqual(len(most_way(queue=(0, 1, 2, 3, 3), merger=Merger(HURRIED))), 1)

    def test_the_greatest_queues(self):
        drawn = Drawn(67)
        for rows in (TURNS, CELL, HURRIED, two_ends(), sums_to(11), words_rows(drawn, 11)):
            self.check_long(rows, drawn.queue(len(rows), 40))
        for rows in (sums_to(12), words_rows(drawn, 12), (tuple(range(12)),) * 12, ((None,) * 12,) * 12):
            self.check_long(rows, drawn.queue(12, 12))
            self.check_long(rows, drawn.queue(2, 12))
        self.assertEqual(fewest_left(Merger(sums_to(4)), (0,) * 40), 10)
        self.assertEqual(most_left(Merger(sums_to(4)), (0,) * 40), 16)

    def check_long(self, rows, queue):
        merger = Merger(rows)
        for function, left in ((fewest_way, fewest_left), (most_way, most_left)):
            end = go_way(rows, queue, function(merger, queue))
            self.assertEqual(len(end), left(merger, queue))
            self.assertEqual(places(rows, end), [])
        for end in comes_to(merger, queue, 0, len(queue)):
            self.assertEqual(go_way(rows, queue, one_way(merger, queue, end)), () if end == -1 else (end,))
        self.assertLessEqual(fewest_left(merger, queue), most_left(merger, queue))


class Huge(ErrorChecks, unittest.TestCase):
    def test_indexes_of_any_size(self):
        for value in (HUGE, -HUGE):
            self.raises(Refused, value, comes_to, Merger(TURNS), (0, 1), value, 2)
            self.raises(Refused, value, comes_to, Merger(TURNS), (0, 1), 0, value)
            self.raises(NoCommand, value, one_way, Merger(TURNS), (0, 1), value)


if __name__ == "__main__":
    unittest.main()
