"""Points 44 and 45: queues by how many are left of them, and by number."""

import unittest
from itertools import product
from time import perf_counter

from foursfold.errors import BadQueue, Refused
from foursfold.mergers import Merger
from foursfold.piles import left_numbers
from foursfold.tellings import left_place, left_queue

from evens import DROPPED, FREE, TWICE
from plainly import Drawn, plain_of
from samples import CELL, LAST, SUMS, TURNS, drawn_ones, named_ones, small_ones, sums_to, two_ends
from wrong import ErrorChecks, alike, any_values, is_below, no_lists, queue_fault


def samples():
    return small_ones(60) + named_ones() + drawn_ones(441, 40) + [DROPPED, TWICE, FREE]


def by_left(rows, length):
    """By number, the ascending queues of a length of which the plain way leaves so many."""
    found = {}
    for queue in product(range(len(rows)), repeat=length):
        found.setdefault(len(plain_of(rows, queue)[0]), []).append(queue)
    return found


class Tellings(ErrorChecks, unittest.TestCase):
    def test_all_queues_of_a_length(self):
        for rows in samples():
            merger = Merger(rows)
            for length in [length for length in range(7) if len(rows) ** length <= 100]:
                for left, queues in by_left(rows, length).items():
                    for number, queue in enumerate(queues):
                        self.assertTrue(alike(left_queue(merger, length, left, number), queue))
                        self.assertTrue(alike(left_place(merger, list(queue)), (left, number)))
                    self.raises(Refused, len(queues), left_queue, merger, length, left, len(queues))

    def test_the_edges(self):
        for rows in samples():
            merger = Merger(rows)
            self.assertEqual(left_queue(merger, 0, 0, 0), ())
            self.assertEqual(left_place(merger, ()), (0, 0))
            for command in range(len(rows)):
                self.assertEqual(left_queue(merger=merger, length=1, left=1, number=command), (command,))
                self.assertEqual(left_place(merger=merger, queue=[command]), (1, command))
            self.raises(Refused, 0, left_queue, merger, 1, 0, 0)
            self.raises(Refused, 1, left_queue, merger, 0, 0, 1)
        self.assertEqual(left_queue(Merger(FREE), 12, 12, 3 ** 12 - 1), (2,) * 12)
        self.assertEqual(left_queue(Merger(TWICE), 12, 0, 0), (0,) * 12)
        self.raises(Refused, 0, left_queue, Merger(FREE), 12, 11, 0)

    def test_wrong_values(self):
        for rows in (TURNS, SUMS, CELL):
            merger = Merger(rows)
            numbers = left_numbers(merger, 3) + (0,) * 4
            for value in any_values() + [3, 4, 40, 41]:
                if not is_below(value, 41):
                    self.raises(Refused, value, left_queue, merger, value, 1, 0)
                    self.raises(Refused, value, left_queue, merger, value, value, value)
                if not is_below(value, 4):
                    self.raises(Refused, value, left_queue, merger, 3, value, 0)
                    self.raises(Refused, value, left_queue, merger, 3, value, "x")
                else:
                    self.raises(Refused, None, left_queue, merger, 3, value, None)
                    self.raises(Refused, numbers[value], left_queue, merger, 3, value, numbers[value])
                if is_below(value, numbers[1]):
                    self.assertTrue(no_lists(left_queue(merger, 3, 1, value)))
                else:
                    self.raises(Refused, value, left_queue, merger, 3, 1, value)

    def test_wrong_queues(self):
        for value in any_values() + [[0] * 40, [0] * 41, (0,) * 41, [0] * 10000, [0] * 41 + [3], [9] + [0] * 41]:
            at = queue_fault(value, 3)
            if at is not None:
                self.raises(BadQueue, at, left_place, Merger(TURNS), value)
            elif len(value) > 40:
                self.raises(Refused, value, left_place, Merger(TURNS), value)
            else:
                self.assertEqual(left_place(Merger(TURNS), value)[0], len(plain_of(TURNS, tuple(value))[0]))

    def test_there_and_back_at_the_limits(self):
        drawn = Drawn(443)
        mergers = [sums_to(12), two_ends(), ((None,) * 12,) * 12, (tuple(range(12)),) * 12, LAST, CELL]
        mergers.append(tuple(tuple((one + other) % 12 for other in range(12)) for one in range(12)))
        mergers.append(tuple(tuple(-1 if one + other == 11 else None for other in range(12)) for one in range(12)))
        start = perf_counter()
        for rows in mergers:
            merger = Merger(rows)
            numbers = left_numbers(merger, 12)
            for _ in range(3):
                queue = drawn.queue(len(rows), 12)
                left, number = left_place(merger, queue)
                self.assertTrue(number < numbers[left])
                self.assertEqual(left_queue(merger, 12, left, number), queue)
            for left, many in enumerate(numbers):
                if many:
                    self.assertEqual(left_place(merger, left_queue(merger, 12, left, many - 1)), (left, many - 1))
        self.assertLess(perf_counter() - start, 8)


if __name__ == "__main__":
    unittest.main()
