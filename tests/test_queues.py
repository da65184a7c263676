"""Point 11: merges and ways."""

import unittest

from foursfold.errors import BadQueue, BadWay, Refused
from foursfold.mergers import Merger, mergeable_places
from foursfold.queues import fold_at, way_end

from plainly import HUGE, Drawn, merge_at, places
from samples import CELL, TURNS, drawn_ones, named_ones
from wrong import ErrorChecks, any_values, is_list, queue_fault


class Merges(ErrorChecks, unittest.TestCase):
    def test_fold_at(self):
        drawn = Drawn(51)
        for rows in named_ones() + drawn_ones(52, 60):
            merger = Merger(rows)
            for length in range(8):
                queue = drawn.queue(len(rows), length)
                fits = places(rows, queue)
                for place in range(-2, length + 2):
                    if place in fits:
                        self.assertEqual(fold_at(merger, list(queue), place), merge_at(rows, queue, place))
                        self.assertIs(type(fold_at(merger, queue, place)), tuple)
                    else:
                        self.raises(Refused, place, fold_at, merger, queue, place)

    def test_places_refused(self):
        merger = Merger(TURNS)
        for value in any_values() + [3, 4]:
            if type(value) is int and value in (0, 1):
                self.assertEqual(fold_at(merger, (0, 0, 0), value), ((1, 0), (0, 1))[value])
            else:
                self.raises(Refused, value, fold_at, merger, (0, 0, 0), value)
            self.raises(Refused, value, fold_at, merger, (), value)
            self.raises(Refused, value, fold_at, merger, [1], value)
            self.raises(Refused, value, fold_at, merger, (2, 0), value)

    def test_going(self):
        self.assertEqual(fold_at(Merger(CELL), (0, 1), 0), ())
        self.assertEqual(fold_at(Merger(CELL), (0, 0, 1, 1), 1), (0, 1))
        self.assertEqual(fold_at(place=1, queue=[1, 1, 0], merger=Merger(CELL)), (1,))

    def test_bad_queues_first(self):
        for value in any_values():
            at = queue_fault(value, 3)
            if at is not None:
                self.raises(BadQueue, at, fold_at, Merger(TURNS), value, "no place")
                self.raises(BadQueue, at, way_end, Merger(TURNS), value, "no way")


class Ways(ErrorChecks, unittest.TestCase):
    def test_way_end(self):
        drawn = Drawn(53)
        for rows in named_ones() + drawn_ones(54, 100):
            merger = Merger(rows)
            first = drawn.queue(len(rows), drawn.below(10))
            queue, way = first, []
            while mergeable_places(merger, queue):
                self.assertEqual(way_end(merger, list(first), list(way)), queue)
                self.assertEqual(way_end(way=tuple(way), merger=merger, queue=first), queue)
                way.append(drawn.pick(places(rows, queue)))
                queue = merge_at(rows, queue, way[-1])
            self.assertEqual(way_end(merger, first, way), queue)
            self.assertIs(type(way_end(merger, first, way)), tuple)
            self.raises(BadWay, len(way), way_end, merger, first, way + [0])
            self.raises(BadWay, len(way), way_end, merger, first, tuple(way) + (0, None))

    def test_what_is_no_way(self):
        merger = Merger(TURNS)
        for value in any_values():
            if not is_list(value):
                self.raises(BadWay, -1, way_end, merger, (0, 0, 0), value)
                continue
            # Of (0, 0, 0) two merges can be made: 0 0, or 1 0; then 0 alone goes on.
            at = 0
            while at < len(value) and type(value[at]) is int and (at, value[at]) in ((0, 0), (0, 1), (1, 0)):
                at += 1
            if at == len(value):
                self.assertEqual(len(way_end(merger, (0, 0, 0), value)), (3, 2, 0)[at])
            else:
                self.raises(BadWay, at, way_end, merger, (0, 0, 0), value)

    def test_the_first_bad_place_is_told(self):
        merger = Merger(TURNS)
        for bad in (-1, 4, True, False, None, "0", (0,), [], HUGE, -HUGE, merger):
            self.raises(BadWay, 0, way_end, merger, (0, 0, 0, 0, 0), [bad, 0, bad])
            self.raises(BadWay, 1, way_end, merger, (0, 0, 0, 0, 0), (3, bad, bad))
        self.raises(BadWay, 0, way_end, merger, (), [0])
        self.raises(BadWay, 0, way_end, merger, (1,), (0,))
        self.raises(BadWay, 1, way_end, merger, (0, 1), (0, 0))
        self.assertEqual(way_end(merger, (), ()), ())
        self.assertEqual(way_end(merger, [2, 0], []), (2, 0))

    def test_long_ways(self):
        self.assertEqual(way_end(Merger(CELL), (0, 1) * 5000, [0] * 5000), ())
        self.assertEqual(way_end(Merger(CELL), (0,) * 5000 + (1,) * 5000, list(range(4999, -1, -1))), ())
        self.raises(BadWay, 5000, way_end, Merger(CELL), (0, 1) * 5000, [0] * 5001)


if __name__ == "__main__":
    unittest.main()
