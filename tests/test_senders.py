"""Points 38 to 40: senders, and what barriers cost."""

import unittest

from foursfold.errors import BadQueue, NoCommand, Refused, Uneven
from foursfold.heads import head_depth, losing_word, safe_number, unsafe_head
from foursfold.mergers import Merger
from foursfold.senders import Sender, dear_split, most_cost, sender_loss, split_cost

from evens import DEPTHS, DROPPED, FREE, LIFT, STEPS, TWICE, amalgam, drawn_evens, named_evens, small_evens
from plainly import Drawn, plain_of
from samples import CELL, LAST, SUMS, TURNS
from slowly import folded_to, left
from wrong import ErrorChecks, alike, any_values, is_below, queue_fault

FOUR = (0, 0, 1, 0)


def samples():
    return small_evens(10) + named_evens() + drawn_evens(381, 120)


def told(sender):
    return sender.merger, sender.keep, sender.held, sender.sent, sender.came


class Senders(ErrorChecks, unittest.TestCase):
    def run_stream(self, rows, queue, keep):
        """Put a stream, check each answer, and return what was sent and is held."""
        merger = Merger(rows)
        sender, held, sent = Sender(merger, keep), (), ()
        self.assertIs(sender.merger, merger)
        self.assertTrue(alike(told(sender)[1:], (keep, (), 0, 0)))
        for at, command in enumerate(queue):
            held = plain_of(rows, held + (command,))[0]
            many = safe_number(merger, held) if keep is None else max(0, len(held) - keep)
            self.assertTrue(alike(sender.put(command), held[:many]))
            sent, held = sent + held[:many], held[many:]
            self.assertTrue(alike(told(sender)[1:], (keep, held, len(sent), at + 1)))
            if keep is None:
                # At every moment it has lost nothing.
                self.assertEqual(len(sent) + len(held), left(rows, queue[:at + 1]))
        self.assertEqual(sender_loss(merger, list(queue), keep), len(sent) + len(held) - left(rows, queue))
        return sent, held

    def test_streams(self):
        drawn = Drawn(382)
        losses = set()
        for rows in samples():
            depth = head_depth(Merger(rows))
            for keep in (None, 0, 1, 2, 5, depth):
                queue = drawn.queue(len(rows), 12)
                sent, held = self.run_stream(rows, queue, keep)
                loss = sender_loss(Merger(rows), queue, keep)
                losses.add(loss)
                self.assertEqual(loss, len(sent) + len(held) - left(rows, queue))
                if keep is None or depth is not None and keep >= depth:
                    self.assertEqual(loss, 0)
        self.assertTrue({0, 1, 2, 3} <= losses)

    def test_fewer_than_the_depth_lose(self):
        for rows in samples():
            merger, depth = Merger(rows), head_depth(Merger(rows))
            for keep in range(4 if depth is None else depth):
                queue, word = unsafe_head(merger, keep)
                # Each of its commands but the last ones is sent too early.
                self.assertGreater(sender_loss(merger, queue[:keep + 1] + word, keep), 0)
            for queue in folded_to(rows, 3)[1:]:
                word = losing_word(merger, queue)
                if word is not None:
                    self.assertGreater(sender_loss(merger, queue + word, len(queue) - 1), 0)

    def test_all_may_be_kept(self):
        for rows in (CELL, LIFT, TURNS):
            self.run_stream(rows, Drawn(383).queue(len(rows), 60), 10000)

    def test_a_call_that_raises_changes_nothing(self):
        for keep in (None, 0, 2):
            sender = Sender(Merger(LIFT), keep)
            for command in (0, 4, 1, 0):
                sender.put(command)
            before = told(sender)
            for value in any_values() + [5]:
                if not is_below(value, 5):
                    self.raises(NoCommand, value, sender.put, value)
                    self.assertEqual(told(sender), before)
            self.assertEqual(vars(sender).keys() >= {"merger", "keep", "held", "sent", "came"}, True)

    def test_senders_are_apart(self):
        merger = Merger(LIFT)
        one, other = Sender(merger), Sender(keep=1, merger=merger)
        self.assertEqual((one.put(0), other.put(command=0)), ((), ()))
        self.assertEqual((one.put(4), one.held), ((0, 4), ()))
        self.assertEqual((other.held, other.sent, other.came), ((0,), 0, 1))
        self.assertNotEqual(one, other)

    def test_keep_refused(self):
        for value in any_values() + [10001]:
            self.raises(Uneven, FOUR, Sender, Merger(SUMS), value)
            self.raises(Uneven, FOUR, sender_loss, Merger(SUMS), value, value)
            if value is None or is_below(value, 10001):
                self.assertIs(Sender(Merger(CELL), value).keep, value)
                continue
            self.raises(Refused, value, Sender, Merger(CELL), value)
            self.raises(Refused, value, sender_loss, Merger(CELL), (0, 1), value)
        for value in any_values():
            at = queue_fault(value, 2)
            if at is not None:
                self.raises(BadQueue, at, sender_loss, Merger(CELL), value, "no number")
        self.assertEqual(sender_loss(keep=0, queue=(0, 1), merger=Merger(CELL)), 2)
        self.assertEqual(sender_loss(Merger(CELL), ()), 0)

    def test_long_streams(self):
        self.assertEqual(sender_loss(Merger(CELL), (0,) * 200 + (1,) * 200), 0)
        self.assertEqual(sender_loss(Merger(CELL), (0,) * 5000 + (1,) * 5000, 4990), 20)
        self.assertEqual(sender_loss(Merger(FREE), (0, 1) * 5000, 10000), 0)
        merger = Merger(amalgam(4, 2, 2))
        self.assertEqual(sender_loss(merger, Drawn(384).queue(merger.commands, 400)), 0)
        for rows in DEPTHS.values():
            self.assertEqual(sender_loss(Merger(rows), Drawn(385).queue(6, 400)), 0)


class Splits(ErrorChecks, unittest.TestCase):
    def test_split_cost(self):
        drawn = Drawn(386)
        for rows in samples():
            for _ in range(8):
                one, other = drawn.queue(len(rows), drawn.below(7)), drawn.queue(len(rows), drawn.below(7))
                want = left(rows, one) + left(rows, other) - left(rows, one + other)
                self.assertEqual(split_cost(Merger(rows), list(one), list(other)), want)
                self.assertGreaterEqual(want, 0)
        self.assertEqual(split_cost(other=(2, 2), one=(0, 1), merger=Merger(LIFT)), 2)
        self.assertEqual(split_cost(Merger(CELL), (), ()), 0)

    def test_long_queues(self):
        # Together they are longer than a queue may be.
        self.assertEqual(split_cost(Merger(CELL), (0,) * 10000, (1,) * 10000), 20000)
        self.assertEqual(split_cost(Merger(FREE), (0,) * 10000, [1] * 10000), 0)

    def check_dear(self, rows, number):
        one, other = dear_split(Merger(rows), number)
        self.assertTrue(type(one) is tuple and type(other) is tuple)
        for queue in (one, other):
            self.assertTrue(all(rows[ahead][behind] is None for ahead, behind in zip(queue, queue[1:])))
        self.assertGreaterEqual(len(one) + len(other) - left(rows, one + other), number)

    def test_most_cost(self):
        seen = {}
        for rows in samples():
            merger, most = Merger(rows), most_cost(Merger(rows))
            seen[most] = seen.get(most, 0) + 1
            queues = folded_to(rows, {1: 4, 2: 4, 3: 3}.get(len(rows), 2))
            found = max(
                len(one) + len(other) - left(rows, one + other) for one in queues[:80] for other in queues[:80]
            )
            if most is None:
                for number in (1, 2, 3, 30, 200):
                    self.check_dear(rows, number)
                continue
            self.assertLessEqual(found, most)
            # Each merge takes one of either queue, or of what came of them.
            if most <= 2 and len(queues) <= 80:
                self.assertEqual(found, most)
            for number in range(1, most + 1):
                self.check_dear(rows, number)
            for number in (most + 1, most + 2, 200):
                self.assertIsNone(dear_split(merger, number))
        self.assertTrue({None, 0, 1, 2, 3} <= set(seen), seen)

    def test_greatest_of_longer_queues(self):
        seen = set()
        for rows in drawn_evens(387, 150, 3):
            most = most_cost(Merger(rows))
            if most is None or len(rows) > 4:
                continue
            queues = folded_to(rows, 4)
            if len(queues) > 350:
                continue
            seen.add(most)
            lengths = {queue: left(rows, queue) for queue in queues}
            found = max(lengths[one] + lengths[other] - left(rows, one + other) for one in queues for other in queues)
            self.assertEqual(found, most)
        self.assertTrue({0, 1, 2} <= seen, seen)

    def test_known_ones(self):
        for rows, cost in ((FREE, 0), (DROPPED, 1), (TWICE, 2), (CELL, None), (LAST, 1), (LIFT, 2)):
            self.assertEqual(most_cost(merger=Merger(rows)), cost)
        # One command takes up endlessly many of two that do not merge.
        taker = ((None, None, None), (None, None, None), (2, 2, None))
        self.assertIsNone(most_cost(Merger(taker)))
        self.check_dear(taker, 200)
        self.assertEqual(dear_split(number=1, merger=Merger(STEPS)) is None, False)

    def test_errors(self):
        for value in any_values() + [201]:
            self.raises(Uneven, FOUR, dear_split, Merger(SUMS), value)
            self.raises(Uneven, FOUR, split_cost, Merger(SUMS), value, value)
            if not is_below(value, 201) or value == 0:
                self.raises(Refused, value, dear_split, Merger(LIFT), value)
            at = queue_fault(value, 5)
            if at is not None:
                self.raises(BadQueue, at, split_cost, Merger(LIFT), value, "no queue")
                self.raises(BadQueue, at, split_cost, Merger(LIFT), (0, 1), value)
        self.raises(Uneven, FOUR, most_cost, Merger(SUMS))

    def test_mergers_of_twelve(self):
        for rows in (((None,) * 12,) * 12, ((0,) * 12,) * 12, tuple((one,) * 12 for one in range(12))):
            cost = most_cost(Merger(rows))
            self.assertEqual(dear_split(Merger(rows), 200) is None, cost is not None)


if __name__ == "__main__":
    unittest.main()
