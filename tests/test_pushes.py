"""Point 35: what is left, and what one command more changes."""

import unittest

from foursfold.errors import BadQueue, NoCommand, Refused, Uneven
from foursfold.mergers import Merger
from foursfold.pushes import deep_drop, end_length, most_drop, push_change

from evens import DEPTHS, DROPPED, FREE, LIFT, TWICE, drawn_evens, named_evens, small_evens
from plainly import Drawn, folded_of
from samples import CELL, LAST, SUMS, drawn_ones
from slowly import folded_to, left
from wrong import ErrorChecks, any_values, is_below, queue_fault

FOUR = (0, 0, 1, 0)


def samples():
    return small_evens(10) + named_evens() + drawn_evens(351, 150)


def short_queues(rows):
    """Folded queues to 5 commands, of large mergers to fewer."""
    return folded_to(rows, {1: 6, 2: 5, 3: 5, 4: 4, 5: 4}.get(len(rows), 3))


def is_folded_in(rows, queue):
    return all(rows[one][other] is None for one, other in zip(queue, queue[1:]))


class Lengths(ErrorChecks, unittest.TestCase):
    def test_end_length(self):
        drawn = Drawn(352)
        for rows in samples():
            for length in (0, 1, 3, 6, 7):
                queue = drawn.queue(len(rows), length)
                self.assertEqual({end_length(Merger(rows), list(queue))}, set(map(len, folded_of(rows, queue))))

    def test_never_more_than_the_pieces(self):
        drawn = Drawn(353)
        for rows in samples():
            for _ in range(5):
                one, other = drawn.queue(len(rows), drawn.below(6)), drawn.queue(len(rows), drawn.below(6))
                merger = Merger(rows)
                self.assertLessEqual(end_length(merger, one + other), end_length(merger, one) + end_length(merger, other))

    def test_push_change(self):
        drawn = Drawn(354)
        for rows in samples():
            for _ in range(5):
                queue, command = drawn.queue(len(rows), drawn.below(8)), drawn.below(len(rows))
                change = push_change(Merger(rows), list(queue), command)
                self.assertEqual(change, left(rows, queue + (command,)) - left(rows, queue))
                self.assertLessEqual(change, 1)
        self.assertEqual(push_change(command=2, queue=(0, 1), merger=Merger(LIFT)), -1)
        self.assertEqual(push_change(Merger(LIFT), (), 2), 1)

    def test_long_queues(self):
        self.assertEqual(end_length(queue=(0,) * 10000, merger=Merger(FREE)), 10000)
        self.assertEqual(push_change(Merger(FREE), (0,) * 10000, 1), 1)
        self.assertEqual(push_change(Merger(CELL), (0,) * 10000, 1), -1)
        self.assertEqual(push_change(Merger(LAST), (0,) * 10000, 1), 0)

    def test_errors(self):
        merger, uneven = Merger(LIFT), Merger(SUMS)
        for value in any_values():
            at = queue_fault(value, 5)
            if at is not None:
                self.raises(BadQueue, at, end_length, merger, value)
                self.raises(BadQueue, at, push_change, merger, value, "no command")
            if not is_below(value, 5):
                self.raises(NoCommand, value, push_change, merger, (0, 3), value)
            self.raises(Uneven, FOUR, end_length, uneven, value)
            self.raises(Uneven, FOUR, push_change, uneven, value, value)
            self.raises(Uneven, FOUR, deep_drop, uneven, value)
        self.raises(Uneven, FOUR, most_drop, uneven)


class Drops(ErrorChecks, unittest.TestCase):
    def check_deep(self, rows, number):
        queue, command = deep_drop(Merger(rows), number)
        self.assertIs(type(queue), tuple)
        self.assertTrue(is_folded_in(rows, queue))
        self.assertTrue(is_below(command, len(rows)))
        self.assertGreaterEqual(len(queue) - left(rows, queue + (command,)), number)

    def test_samples(self):
        seen = {}
        for rows in samples():
            merger, most = Merger(rows), most_drop(Merger(rows))
            seen[most] = seen.get(most, 0) + 1
            short = short_queues(rows)
            longest = max(map(len, short))
            found = max(
                [0] + [len(queue) - left(rows, queue + (command,)) for queue in short for command in range(len(rows))]
            )
            if most is None:
                self.assertGreaterEqual(found, 1)
                for number in (1, 2, 7, 50, 200):
                    self.check_deep(rows, number)
                continue
            self.assertLessEqual(found, most)
            # A drop by so many takes two commands more at most.
            if most + 2 <= longest:
                self.assertEqual(found, most)
            for number in range(1, most + 1):
                self.check_deep(rows, number)
            for number in (most + 1, most + 2, 200):
                self.assertIsNone(deep_drop(merger, number))
        self.assertTrue({None, 0, 1, 2, 3} <= set(seen), seen)

    def test_known_ones(self):
        for rows, most in ((FREE, 0), (DROPPED, 0), (TWICE, 1), (CELL, 1), (LAST, 0), (LIFT, 1)):
            self.assertEqual(most_drop(merger=Merger(rows)), most)
        for rows in DEPTHS.values():
            self.assertIsNotNone(most_drop(Merger(rows)))
        # 1 takes up each 0 ahead of it: there is no greatest drop.
        endless = ((None, 1), (None, None))
        self.assertIsNone(most_drop(Merger(endless)))
        self.check_deep(endless, 200)
        self.assertEqual(deep_drop(number=3, merger=Merger(endless)), ((0,) * 4, 1))
        # The other way round it is taken up itself.
        self.assertEqual(most_drop(Merger(((None, 0), (None, 1)))), 0)

    def test_numbers_refused(self):
        for value in any_values() + [201]:
            if not is_below(value, 201) or value == 0:
                self.raises(Refused, value, deep_drop, Merger(LIFT), value)
        self.assertIsNone(deep_drop(Merger(LIFT), 200))


if __name__ == "__main__":
    unittest.main()
