"""Points 12, 15, 16 and 17: the plain way, all folded queues, even mergers."""

import unittest
from itertools import product

from foursfold.courts import is_even, uneven_four
from foursfold.errors import BadQueue, TooGreat
from foursfold.folding import folded_queues, folded_total, losing_four, plain_fold, plain_way
from foursfold.mergers import Merger, mirror_merger
from foursfold.queues import way_end
from foursfold.stretches import fewest_left, most_left

from plainly import Drawn, all_queues, folded_of, go_way, left_of, merge_at, places, plain_of
from samples import CELL, HURRIED, LAST, SUMS, SWAPPED, TURNS, drawn_ones, named_ones, small_ones, sums_to
from wrong import ErrorChecks, any_values, no_lists, queue_fault


def slow_losing_four(rows):
    for a, b, c, y in product(range(len(rows)), repeat=4):
        if rows[a][b] is None or rows[b][c] is None or rows[c][y] is not None:
            continue
        if left_of(rows, rows[a][b], c) is None and left_of(rows, rows[b][c], y) is not None:
            return a, b, c, y
    return None


def fewest_of(rows, queue):
    return min(map(len, folded_of(rows, queue)))


class PlainWay(ErrorChecks, unittest.TestCase):
    def test_small_and_drawn_mergers(self):
        drawn = Drawn(71)
        for rows in small_ones(30) + named_ones() + drawn_ones(72, 150):
            merger = Merger(rows)
            for length in range(9):
                queue = drawn.queue(len(rows), length)
                self.assertEqual((plain_fold(merger, list(queue)), plain_way(merger, list(queue))), plain_of(rows, queue))
                self.assertTrue(no_lists(plain_fold(merger, queue)) and no_lists(plain_way(merger, queue)))
                self.assertEqual(go_way(rows, queue, plain_way(merger, queue)), plain_fold(merger, queue))
                self.assertEqual(places(rows, plain_fold(merger, queue)), [])
                self.assertLess(len(plain_way(merger, queue)), max(length, 1))

    def test_named_ones(self):
        self.assertEqual(plain_fold(queue=(2, 0, 0, 1), merger=Merger(TURNS)), (2, 0))
        self.assertEqual(plain_way(queue=(2, 0, 0, 1), merger=Merger(TURNS)), (1, 1))
        # What goes lets its neighbours meet.
        self.assertEqual(plain_way(Merger(CELL), (0, 0, 1, 1)), (1, 0))
        self.assertEqual(plain_fold(Merger(CELL), (0, 0, 1, 1)), ())
        # A merge can make the last two merge further.
        self.assertEqual(plain_way(Merger(SUMS), (0, 0, 1)), (0,))

    def test_short_queues(self):
        for rows in named_ones():
            self.assertEqual((plain_fold(Merger(rows), ()), plain_way(Merger(rows), [])), ((), ()))
            for command in range(len(rows)):
                self.assertEqual(plain_fold(Merger(rows), [command]), (command,))
                self.assertEqual(plain_way(Merger(rows), (command,)), ())

    def test_the_greatest_queues(self):
        self.assertEqual(plain_fold(Merger(CELL), (0,) * 5000 + (1,) * 5000), ())
        self.assertEqual(plain_way(Merger(CELL), (0,) * 5000 + (1,) * 5000), tuple(range(4999, -1, -1)))
        for rows in (TURNS, LAST, HURRIED, sums_to(12)):
            queue = Drawn(73).queue(len(rows), 10000)
            way = plain_way(Merger(rows), queue)
            self.assertEqual(way_end(Merger(rows), queue, way), plain_fold(Merger(rows), queue))

    def test_bad_queues(self):
        for value in any_values():
            at = queue_fault(value, 3)
            if at is not None:
                for function in (plain_fold, plain_way, folded_queues, folded_total):
                    self.raises(BadQueue, at, function, Merger(TURNS), value)


class BestFromTheLeft(unittest.TestCase):
    def test_losing_four(self):
        found = 0
        for rows in small_ones(5) + named_ones() + drawn_ones(74, 200):
            four = losing_four(Merger(rows))
            self.assertEqual(four, slow_losing_four(rows))
            if four is not None:
                found += 1
                self.assertIs(type(four), tuple)
                self.assertEqual(len(plain_fold(Merger(rows), four)), 3)
                self.assertLessEqual(fewest_of(rows, four), 2)
        self.assertGreater(found, 100)
        self.assertEqual(losing_four(merger=Merger(HURRIED)), (0, 1, 2, 3))

    def test_without_one_the_plain_way_leaves_the_fewest(self):
        drawn = Drawn(75)
        for rows in small_ones(7) + named_ones() + drawn_ones(76, 200):
            merger = Merger(rows)
            if losing_four(merger) is not None:
                continue
            for length in (4, 5, 6, 8):
                queue = drawn.queue(len(rows), length)
                left = len(plain_fold(merger, queue))
                self.assertEqual(left, fewest_of(rows, queue))
                for place in places(rows, queue):
                    self.assertLessEqual(left, len(plain_fold(merger, merge_at(rows, queue, place))))
                for at in range(length + 1):
                    parts = len(plain_fold(merger, queue[:at])) + len(plain_fold(merger, queue[at:]))
                    self.assertLessEqual(left, parts)

    def test_from_the_right(self):
        drawn = Drawn(77)
        for rows in small_ones(40) + named_ones() + drawn_ones(78, 60):
            mirror = mirror_merger(Merger(rows))
            if losing_four(mirror) is None:
                queue = drawn.queue(len(rows), 7)
                self.assertEqual(len(plain_fold(mirror, queue[::-1])), fewest_of(rows, queue))

    def test_uneven_mergers_without_one(self):
        seen = 0
        for rows in small_ones(5) + named_ones() + drawn_ones(79, 200):
            found = uneven_four(Merger(rows))
            if found is None:
                self.assertIsNone(losing_four(Merger(rows)))
                self.assertIsNone(losing_four(mirror_merger(Merger(rows))))
            elif losing_four(Merger(rows)) is None:
                seen += 1
                left = len(plain_fold(Merger(rows), found[1]))
                self.assertGreater(max(map(len, folded_of(rows, found[1]))), left)
        self.assertGreater(seen, 20)


class FoldedQueues(ErrorChecks, unittest.TestCase):
    def test_small_mergers(self):
        for rows in small_ones(60):
            for length in range(5):
                for queue in product(range(len(rows)), repeat=length):
                    self.check(rows, queue)

    def test_drawn_mergers(self):
        drawn = Drawn(80)
        for rows in named_ones() + drawn_ones(81, 150):
            for length in (1, 5, 6, 7, 8, 9):
                self.check(rows, drawn.queue(len(rows), length))

    def check(self, rows, queue):
        found = folded_queues(Merger(rows), list(queue))
        self.assertEqual(found, folded_of(rows, queue))
        self.assertTrue(no_lists(found))
        self.assertEqual(folded_total(Merger(rows), list(queue)), len(found))
        folded = sorted(end for end in all_queues(rows, queue) if not places(rows, end))
        self.assertEqual(list(found), folded)

    def test_short_queues(self):
        self.assertEqual(folded_queues(Merger(CELL), ()), ((),))
        self.assertEqual(folded_queues(Merger(CELL), (0, 1)), ((),))
        self.assertEqual(folded_queues(Merger(CELL), [1]), ((1,),))
        self.assertEqual(folded_total(Merger(CELL), ()), 1)
        self.assertEqual(folded_total(queue=[0, 1, 0], merger=Merger(SWAPPED)), 2)

    def test_things_that_go_and_things_that_stay(self):
        seen = False
        for rows in drawn_ones(82, 300):
            for queue in product(range(min(len(rows), 3)), repeat=4):
                folded = folded_of(rows, queue)
                if () in folded and len(folded) > 1:
                    seen = True
                    self.check(rows, queue)
        self.assertTrue(seen)

    def test_most(self):
        merger = Merger(sums_to(3))
        queue = (0,) * 12
        total = len(folded_of(merger.rows, queue))
        self.assertGreater(total, 30)
        for most in range(1, total + 3):
            if most < total:
                self.raises(TooGreat, most, folded_queues, merger, queue, most=most)
            else:
                self.assertEqual(folded_queues(merger, queue, most=most), folded_of(merger.rows, queue))
        with self.assertRaises(TypeError):
            folded_queues(merger, queue, 5)
        with self.assertRaises(TypeError):
            folded_total(merger, queue, most=5)
        self.raises(BadQueue, 0, folded_queues, merger, [5], most=1)

    def test_a_thousand_if_nothing_is_said(self):
        none = None
        merger = Merger([(1, none, none, 2), (none, 3, none, none), (none,) * 4, (none,) * 4])
        self.assertEqual(folded_total(merger, (0,) * 20), 1113)
        self.raises(TooGreat, 1000, folded_queues, merger, (0,) * 20)
        self.raises(TooGreat, 1112, folded_queues, merger, (0,) * 20, most=1112)
        self.assertEqual(len(folded_queues(merger, (0,) * 20, most=1113)), 1113)
        self.assertEqual(folded_total(Merger(sums_to(2)), (0,) * 20), 200)
        self.assertEqual(len(folded_queues(Merger(sums_to(2)), (0,) * 20)), 200)

    def test_like_parts(self):
        # What stands between the parts merges with nothing.
        rows = [[None] * 11 for _ in range(11)]
        rows[0][1], rows[1][2], rows[2][3], rows[3][4] = 6, 7, 8, 9
        merger, part = Merger(rows), (0, 1, 2, 3, 4, 5)
        one = folded_of(merger.rows, part)
        self.assertEqual(folded_total(merger, part * 3), len(one) ** 3)
        want = sorted(ahead + middle + behind for ahead, middle, behind in product(one, repeat=3))
        self.assertEqual(folded_queues(merger, part * 3), tuple(want))

    def test_the_greatest_queues(self):
        drawn = Drawn(83)
        for rows in named_ones() + drawn_ones(84, 30) + [sums_to(12)]:
            for queue in (drawn.queue(len(rows), 20), drawn.queue(min(len(rows), 2), 20)):
                total = folded_total(Merger(rows), queue)
                if total <= 20000:
                    found = folded_queues(Merger(rows), queue, most=20000)
                    self.assertEqual(len(found), total)
                    self.assertEqual(list(found), sorted(set(found)))


class EvenMergers(unittest.TestCase):
    def test_all_lengths_are_one(self):
        drawn = Drawn(85)
        seen = 0
        for rows in small_ones(10) + named_ones() + drawn_ones(86, 200):
            merger = Merger(rows)
            if not is_even(merger):
                continue
            seen += 1
            for length in range(0, 10, 2):
                queue = drawn.queue(len(rows), length)
                left = len(plain_fold(merger, queue))
                self.assertEqual((fewest_left(merger, queue), most_left(merger, queue)), (left, left))
                self.assertEqual({len(end) for end in folded_queues(merger, queue)}, {left})
        self.assertGreater(seen, 300)


if __name__ == "__main__":
    unittest.main()
