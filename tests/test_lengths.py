"""Point 33: lengths."""

import unittest
from itertools import product

from foursfold.errors import BadQueue, NoCommand, Refused, TooGreat, Uneven
from foursfold.folding import plain_fold
from foursfold.heads import head_depth
from foursfold.lengths import LengthDesk, length_house, parting_queue
from foursfold.mergers import Merger

from evens import DEPTHS, ENDED, FREE, LIFT, PARTED, STEPS, drawn_evens, named_evens, small_evens
from plainly import Drawn
from samples import CELL, LAST, SUMS
from slowly import class_of, folded_to, left, over_pairs, queues_to
from wrong import ErrorChecks, any_values, is_below, no_lists, queue_fault

FOUR = (0, 0, 1, 0)
# What the default stops at, and less than that is told at once.
MOST = 5000


def samples():
    return small_evens(10) + named_evens() + drawn_evens(331, 150)


def with_depth(most=MOST):
    """Mergers with a depth, with it, and not too many folded queues to it."""
    found = []
    for rows in samples():
        depth = head_depth(Merger(rows))
        if depth is not None and folded_many(rows, depth) <= most:
            found.append((rows, depth))
    return found


def folded_many(rows, length):
    """How many folded queues there are to a length."""
    counts, total = [1] * len(rows), 1
    for _ in range(length):
        total += sum(counts)
        counts = [
            sum(counts[one] for one in range(len(rows)) if rows[one][other] is None) for other in range(len(rows))
        ]
    return total


def words_for(rows):
    return queues_to(len(rows), {1: 7, 2: 6, 3: 4, 4: 4, 5: 3}.get(len(rows), 2))


def profile(rows, queue, words):
    """By how much the length of a queue changes behind each of some words."""
    before = left(rows, queue)
    return tuple(left(rows, queue + word) - before for word in words)


def slow_parting(rows, one, other, words):
    """The first of some words behind which two queues change unlike, or None."""
    before = left(rows, one) - left(rows, other)
    return next((word for word in words if left(rows, one + word) - left(rows, other + word) != before), None)


class LengthHouse(ErrorChecks, unittest.TestCase):
    def test_lengths_are_told(self):
        for rows, _ in with_depth():
            tables, changes, queues = length_house(Merger(rows))
            self.assertTrue(no_lists((tables, changes, queues)))
            self.assertEqual((len(tables), len(changes)), (len(rows),) * 2)
            for queue in words_for(rows)[::5]:
                note, length = 0, 0
                for command in queue:
                    length += changes[command][note]
                    note = tables[command][note]
                self.assertEqual(length, left(rows, queue))

    def test_no_two_notes_are_alike(self):
        numbers = set()
        for rows, _ in with_depth():
            merger = Merger(rows)
            queues = length_house(merger)[2]
            numbers.add(len(queues))
            for at, one in enumerate(queues[:12]):
                for other in queues[:at]:
                    word = parting_queue(merger, one, other)
                    self.assertNotEqual(*[left(rows, queue + word) - left(rows, queue) for queue in (one, other)])
        self.assertGreater(len(numbers), 8)

    def test_notes_are_numbered_by_their_first_queues(self):
        for rows, _ in with_depth():
            merger = Merger(rows)
            tables, _, queues = length_house(merger)
            self.assertEqual(list(queues), sorted(queues, key=lambda queue: (len(queue), queue)))
            notes = []
            for queue in words_for(rows):
                note = 0
                for command in queue:
                    note = tables[command][note]
                if note == len(notes):
                    notes.append(queue)
                self.assertLess(note, len(notes))
            self.assertEqual(queues[:len(notes)], tuple(notes))

    def test_notes_hang_on_classes_and_make_a_house(self):
        drawn = Drawn(332)
        for rows, _ in with_depth():
            tables, pairs = length_house(Merger(rows))[0], over_pairs(rows)
            queue = drawn.pick(folded_to(rows, 3))
            notes = set()
            for other in class_of(pairs, queue):
                note = 0
                for command in other:
                    note = tables[command][note]
                notes.add(note)
            self.assertEqual(len(notes), 1)
            for one, row in enumerate(rows):
                for other, end in enumerate(row):
                    if end is not None:
                        done = [tables[other][note] for note in tables[one]]
                        self.assertEqual(done, list(range(len(done))) if end == -1 else list(tables[end]))

    def test_fewest_notes(self):
        # Unlike notes of queues with unlike changes, and no more.
        for rows, depth in with_depth(60):
            words = words_for(rows)
            told = {profile(rows, queue, words) for queue in folded_to(rows, depth)}
            notes = len(length_house(Merger(rows))[2])
            self.assertLessEqual(len(told), notes)
            if max(map(len, length_house(Merger(rows))[2])) < len(words[-1]):
                self.assertEqual(len(told), notes)

    def test_none(self):
        seen = 0
        for rows in samples():
            if head_depth(Merger(rows)) is None:
                seen += 1
                self.assertIsNone(length_house(merger=Merger(rows), most=1))
                merger = Merger(rows)
                self.raises(Refused, merger, LengthDesk, merger, most=1)
                self.raises(Refused, merger, parting_queue, merger, (), [0], most=1)
        self.assertGreater(seen, 50)

    def test_known_ones(self):
        self.assertEqual(length_house(Merger(FREE)), (((0,),) * 3, ((1,),) * 3, ((),)))
        self.assertEqual(length_house(Merger(LAST)), (((1, 1), (1, 1)), ((1, 0), (1, 0)), ((), (0,))))
        want = (((1, 1, 2), (2, 2, 2)), ((1, 0, 0), (1, 1, 0)), ((), (0,), (1,)))
        self.assertEqual(length_house(Merger(STEPS)), want)

    def test_most(self):
        for rows in (FREE, LAST, STEPS, LIFT, DEPTHS[3], DEPTHS[4]) + ENDED:
            merger = Merger(rows)
            many = folded_many(rows, head_depth(merger))
            want = length_house(merger, most=many)
            for most in {1, many // 2, many - 1} & set(range(1, many)):
                self.raises(TooGreat, most, length_house, merger, most=most)
                self.raises(TooGreat, most, LengthDesk, merger, most=most)
                self.raises(TooGreat, most, parting_queue, merger, (), (), most=most)
            self.assertEqual(length_house(merger, most=20000), want)
            self.assertEqual(LengthDesk(merger, most=many).put(0), 1)
        for function, behind in ((length_house, ()), (LengthDesk, ()), (parting_queue, ((), ()))):
            with self.assertRaises(TypeError):
                function(Merger(LAST), *behind, 20000)
        deep = Merger(DEPTHS[6])
        many = folded_many(deep.rows, 6)
        self.assertTrue(MOST < many <= 20000)
        self.raises(TooGreat, MOST, length_house, deep)
        self.assertIsNotNone(length_house(deep, most=many))

    def test_uneven(self):
        self.raises(Uneven, FOUR, length_house, Merger(SUMS), most=1)
        self.raises(Uneven, FOUR, LengthDesk, Merger(SUMS), most=1)
        for value in any_values():
            self.raises(Uneven, FOUR, parting_queue, Merger(SUMS), value, value, most=1)

    def test_limits(self):
        drawn = Drawn(333)
        for depth, rows in DEPTHS.items():
            merger = Merger(rows)
            self.assertEqual(head_depth(merger), depth)
            desk, queue = LengthDesk(merger, most=20000), drawn.queue(6, 300)
            for command in queue:
                desk.put(command)
            self.assertEqual(desk.length, left(rows, queue))
            self.assertIsNone(parting_queue(merger, queue, plain_fold(merger, queue), most=20000))
        self.assertIsNone(length_house(Merger(((None,) * 11 + (-1,),) + ((None,) * 12,) * 10 + ((-1,) + (None,) * 11,))))
        self.assertEqual(length_house(Merger(((None,) * 12,) * 12))[2], ((),))
        self.assertEqual(len(length_house(Merger(((0,) * 12,) * 12))[2]), 2)


class Desks(ErrorChecks, unittest.TestCase):
    def test_streams(self):
        drawn = Drawn(334)
        for rows, _ in with_depth():
            merger = Merger(rows)
            tables, _, queues = length_house(merger)
            desk, other = LengthDesk(merger), LengthDesk(merger=merger, most=MOST)
            self.assertEqual((desk.note, desk.length), (0, 0))
            queue, note = drawn.queue(len(rows), 25), 0
            for at, command in enumerate(queue):
                length = desk.put(command)
                note = tables[command][note]
                self.assertEqual((length, desk.length, desk.note), (left(rows, queue[:at + 1]), length, note))
            self.assertIsNone(parting_queue(merger, queue, queues[desk.note]))
            self.assertEqual((other.note, other.length), (0, 0))

    def test_a_call_that_raises_changes_nothing(self):
        desk = LengthDesk(Merger(STEPS))
        desk.put(command=0)
        for value in any_values() + [2]:
            if not is_below(value, 2):
                self.raises(NoCommand, value, desk.put, value)
                self.assertEqual((desk.note, desk.length), (1, 1))
        self.assertEqual((desk.put(1), desk.note), (2, 2))


class Partings(ErrorChecks, unittest.TestCase):
    def test_the_first_that_parts(self):
        drawn = Drawn(335)
        lengths = set()
        for rows, _ in with_depth():
            merger, words = Merger(rows), words_for(rows)
            for _ in range(12):
                one, other = drawn.queue(len(rows), drawn.below(5)), drawn.queue(len(rows), drawn.below(5))
                word = parting_queue(merger, list(one), list(other))
                want = slow_parting(rows, one, other, words)
                lengths.add(None if word is None else len(word))
                if word is None or len(word) <= len(words[-1]):
                    self.assertEqual(word, want)
                else:
                    self.assertIsNone(want)
                self.assertEqual(parting_queue(merger, other, one), word)
        self.assertTrue({None, 1, 2} <= lengths, lengths)

    def test_long_words(self):
        lengths = set()
        for rows in PARTED:
            merger, words = Merger(rows), queues_to(len(rows), 4)
            queues = length_house(merger)[2]
            for one, other in list(product(queues[:9], queues[:9])):
                if one < other:
                    word = parting_queue(merger, one, other)
                    lengths.add(len(word))
                    self.assertEqual(word, slow_parting(rows, one, other, words))
        self.assertEqual(lengths, {1, 2, 3, 4})

    def test_errors(self):
        for value in any_values():
            for rows in (CELL, LAST):
                at = queue_fault(value, 2)
                if at is not None:
                    self.raises(BadQueue, at, parting_queue, Merger(rows), value, "no queue", most=1)
                    self.raises(BadQueue, at, parting_queue, Merger(rows), [0], value, most=1)
        merger = Merger(CELL)
        self.raises(Refused, merger, parting_queue, merger, (0,), (0,))
        self.assertEqual(parting_queue(other=(0,), one=(1,), merger=Merger(STEPS)), (1,))


if __name__ == "__main__":
    unittest.main()
