"""Points 36 and 37: safe heads, and the depth from which on all are."""

import unittest

from foursfold.courts import need_even
from foursfold.errors import BadQueue, Refused, Uneven
from foursfold.heads import head_depth, losing_word, safe_number, unsafe_head
from foursfold.mergers import Merger

from evens import DEPTHS, DROPPED, FREE, LIFT, TWICE, amalgam, drawn_evens, named_evens, small_evens
from plainly import Drawn, plain_of
from samples import CELL, LAST, SUMS
from slowly import folded_to, left, queues_to
from wrong import ErrorChecks, any_values, is_below, queue_fault

FOUR = (0, 0, 1, 0)


def samples():
    return small_evens(10) + named_evens() + drawn_evens(361, 120)


def some_queues(rows, drawn, many):
    """Folded queues to 4 commands, the short ones of small mergers all."""
    short = folded_to(rows, 2)[1:30]
    longer = folded_to(rows, 4 if len(rows) < 6 else 3)
    return short + [drawn.pick(longer[1:]) for _ in range(many)]


def words_for(rows):
    return queues_to(len(rows), {1: 5, 2: 5, 3: 4, 4: 3}.get(len(rows), 2))


def loses(rows, queue, word):
    """Whether it costs something to send the head ahead of a word."""
    return left(rows, queue + word) != 1 + left(rows, queue[1:] + word)


def slow_depth(rows, length):
    """The number of commands behind unsafe heads, of queues to a length; -1 for none."""
    found = -1
    for queue in folded_to(rows, length)[1:]:
        if losing_word(Merger(rows), queue) is not None:
            found = max(found, len(queue) - 1)
    return found


class Heads(ErrorChecks, unittest.TestCase):
    def test_losing_words(self):
        drawn = Drawn(362)
        lengths = set()
        for rows in samples():
            merger, words = Merger(rows), words_for(rows)
            for queue in some_queues(rows, drawn, 12):
                word = losing_word(merger, list(queue))
                want = next((one for one in words if loses(rows, queue, one)), None)
                lengths.add(None if word is None else len(word))
                if want is not None:
                    self.assertEqual(len(word), len(want))
                if word is not None:
                    self.assertIs(type(word), tuple)
                    self.assertLess(left(rows, queue + word), 1 + left(rows, queue[1:] + word))
                    self.assertTrue(want is not None or len(word) > len(words[-1]))
        self.assertTrue({None, 1, 2, 3} <= lengths, lengths)

    def test_safe_if_never_merged(self):
        # The plain way goes on above the head, and never comes to it.
        drawn = Drawn(363)
        for rows in samples():
            for queue in some_queues(rows, drawn, 6):
                found = losing_word(Merger(rows), queue)
                if found is not None:
                    self.assertIn(0, plain_of(rows, queue + found)[1])
                else:
                    for word in words_for(rows)[::7]:
                        self.assertEqual(plain_of(rows, queue + word)[0][0], queue[0])
                        self.assertNotIn(0, plain_of(rows, queue + word)[1])

    def test_safe_numbers(self):
        drawn = Drawn(364)
        numbers = set()
        for rows in samples():
            merger = Merger(rows)
            for queue in some_queues(rows, drawn, 12):
                want = 0
                while want < len(queue) and losing_word(merger, queue[want:]) is None:
                    want += 1
                self.assertEqual(safe_number(merger, list(queue)), want)
                numbers.add((want, len(queue)))
        self.assertTrue({(0, 3), (1, 3), (2, 3), (3, 3)} <= numbers)

    def test_short_queues(self):
        for rows in named_evens():
            self.assertEqual((safe_number(Merger(rows), []), losing_word(Merger(rows), ())), (0, None))
        self.assertEqual((safe_number(Merger(FREE), [1]), losing_word(Merger(FREE), [1])), (1, None))
        self.assertEqual((safe_number(Merger(CELL), [1]), losing_word(Merger(CELL), [1])), (0, (0,)))
        self.assertEqual(losing_word(queue=(0, 1), merger=Merger(LIFT)), (2,))
        self.assertEqual(safe_number(queue=(0, 4, 1), merger=Merger(LIFT)), 2)

    def test_long_queues(self):
        self.assertEqual(losing_word(Merger(CELL), (0,) * 400), (1,) * 400)
        self.assertEqual(safe_number(Merger(FREE), (0, 1) * 200), 400)
        self.assertEqual(safe_number(Merger(LIFT), (1,) * 400), 399)
        self.assertIsNone(losing_word(Merger(LIFT), (0, 4, 1) * 133))
        self.assertEqual(safe_number(Merger(LIFT), (0, 4, 1) * 133), 398)
        merger, queue = Merger(amalgam(4, 2, 2)), (0, 10) * 200
        self.assertEqual(safe_number(merger, queue), 0)
        word = losing_word(merger, queue)
        self.assertTrue(390 < len(word) <= 400)
        self.assertLess(left(merger.rows, queue + word), 1 + left(merger.rows, queue[1:] + word))
        for depth, rows in DEPTHS.items():
            queue, _ = unsafe_head(Merger(rows), depth - 1)
            long = queue + (queue[-1],) * (400 - len(queue))
            if all(rows[one][other] is None for one, other in zip(long, long[1:])):
                self.assertGreaterEqual(safe_number(Merger(rows), long), 400 - depth)

    def test_errors(self):
        merger, uneven = Merger(LIFT), Merger(SUMS)
        for function in (safe_number, losing_word):
            for value in any_values():
                at = queue_fault(value, 5)
                if at is not None:
                    self.raises(BadQueue, at, function, merger, value)
                self.raises(Uneven, FOUR, function, uneven, value)
            for wrong in ([1, 2], (0, 3), (4, 1, 2)):
                self.raises(Refused, wrong, function, merger, wrong)


class Depth(ErrorChecks, unittest.TestCase):
    def check_unsafe(self, rows, number):
        queue, word = unsafe_head(Merger(rows), number)
        self.assertTrue(type(queue) is tuple and type(word) is tuple)
        self.assertTrue(number < len(queue) <= 400)
        self.assertTrue(all(rows[one][other] is None for one, other in zip(queue, queue[1:])))
        self.assertTrue(all(is_below(command, len(rows)) for command in word))
        self.assertLess(left(rows, queue + word), 1 + left(rows, queue[1:] + word))

    def test_samples(self):
        seen = set()
        for rows in samples():
            merger, depth = Merger(rows), head_depth(Merger(rows))
            seen.add(depth)
            length = {1: 5, 2: 5, 3: 4, 4: 4}.get(len(rows), 3)
            found = slow_depth(rows, length)
            if depth is None:
                for number in (0, 1, 3, 20, 200):
                    self.check_unsafe(rows, number)
                continue
            self.assertLess(found, depth)
            if depth <= length:
                self.assertEqual(found, depth - 1)
            for number in range(depth):
                self.check_unsafe(rows, number)
            for number in (depth, depth + 1, 200):
                self.assertIsNone(unsafe_head(merger, number))
        self.assertTrue({None, 0, 1, 2, 3, 4, 5, 6} <= seen, seen)

    def test_known_ones(self):
        for rows, depth in ((FREE, 0), (DROPPED, 1), (TWICE, 1), (CELL, None), (LAST, 1), (LIFT, 2)):
            self.assertEqual(head_depth(merger=Merger(rows)), depth)
        for depth, rows in DEPTHS.items():
            self.assertEqual(head_depth(Merger(rows)), depth)
        self.assertIsNone(head_depth(Merger(amalgam(2, 2, 2))))

    def test_mergers_of_twelve(self):
        for rows in (amalgam(4, 2, 2), nothing_but(12, 0), nothing_but(12, None)):
            merger = need_even(Merger(rows))
            depth = head_depth(merger)
            self.assertEqual(unsafe_head(merger, 200) is None, depth is not None)
        self.assertEqual(head_depth(Merger(nothing_but(12, 0))), 1)
        self.assertEqual(head_depth(Merger(nothing_but(12, None))), 0)

    def test_numbers_refused(self):
        for value in any_values() + [201]:
            self.raises(Uneven, FOUR, unsafe_head, Merger(SUMS), value)
            if not is_below(value, 201):
                self.raises(Refused, value, unsafe_head, Merger(LIFT), value)
        self.raises(Uneven, FOUR, head_depth, Merger(SUMS))
        self.assertIsNone(unsafe_head(number=200, merger=Merger(LIFT)))


def nothing_but(commands, end):
    """All neighbours merge to one command, or none do."""
    return ((end,) * commands,) * commands


if __name__ == "__main__":
    unittest.main()
