"""Point 56: live queues."""

import unittest
from time import perf_counter

from foursfold.courts import uneven_four
from foursfold.errors import BadQueue, NoCommand, Refused, Uneven
from foursfold.live import Live
from foursfold.mergers import Merger

from evens import DROPPED, FREE, LIFT, drawn_evens
from plainly import Drawn, plain_of
from samples import CELL, HANDED, SUMS, SWAPPED, TURNS
from wrong import ErrorChecks, alike, any_values, is_below, queue_fault


class Slow:
    """A live queue that is made anew: all that was done is done again, one by one."""

    def __init__(self, rows, queue):
        self.rows, self.first, self.done, self.undone = rows, tuple(queue), [], []

    def queue(self):
        queue = self.first
        for name, at, command in self.done:
            if name == "put":
                queue = queue + (command,)
            elif name == "put_amid":
                queue = queue[:at] + (command,) + queue[at:]
            elif name == "change_amid":
                queue = queue[:at] + (command,) + queue[at + 1:]
            elif name == "strike_amid":
                queue = queue[:at] + queue[at + 1:]
            else:
                queue = plain_of(self.rows, queue)[0]
        return queue

    def left(self):
        return len(plain_of(self.rows, self.queue())[0])

    def edit(self, name, at, command):
        self.done.append((name, at, command))
        self.undone = []
        return self.left()

    def undo(self):
        if not self.done:
            return False
        self.undone.append(self.done.pop())
        return True

    def redo(self):
        if not self.undone:
            return False
        self.done.append(self.undone.pop())
        return True


def edit(live, name, at, command):
    """An edit of a live queue by its name."""
    if name == "put":
        return live.put(command)
    if name == "strike_amid":
        return live.strike_amid(at)
    if name == "fold_all":
        return live.fold_all()
    return getattr(live, name)(at, command)


EDITS = ("put", "put", "put_amid", "put_amid", "change_amid", "strike_amid", "fold_all")


def drawn_edit(drawn, commands, length):
    """(name, index, command) of an edit that can be done with a queue of a length."""
    name = drawn.pick(EDITS)
    if length == 0 and name in ("change_amid", "strike_amid"):
        name = "put"
    return name, drawn.below(length + (name == "put_amid")), drawn.below(commands)


def whole(live):
    """All that can be told of a live queue: how it is, and was, and will be again."""
    told = [live.queue, live.left()]
    for step, back in ((live.undo, live.redo), (live.redo, live.undo)):
        many = 0
        while step():
            told.append(live.queue)
            many += 1
        told.append(many)
        for _ in range(many):
            assert back()
    return told


class Edits(ErrorChecks, unittest.TestCase):
    def test_like_queues_made_anew(self):
        drawn = Drawn(561)
        for rows in [CELL, TURNS, LIFT, FREE, HANDED, DROPPED] + drawn_evens(562, 40):
            first = drawn.queue(len(rows), drawn.below(5))
            live, slow = Live(Merger(rows), list(first)), Slow(rows, first)
            self.assertTrue(alike(live.queue, first))
            for _ in range(60):
                kind = drawn.below(10)
                if kind < 2:
                    self.assertIs(live.undo(), slow.undo())
                elif kind < 4:
                    self.assertIs(live.redo(), slow.redo())
                else:
                    name, at, command = drawn_edit(drawn, len(rows), len(live.queue))
                    self.assertTrue(alike(edit(live, name, at, command), slow.edit(name, at, command)))
                self.assertTrue(alike(live.queue, slow.queue()))
                self.assertTrue(alike(live.left(), slow.left()))
                self.assertEqual(live.merger, Merger(rows))

    def test_each_edit(self):
        live = Live(merger=Merger(CELL), queue=[0, 1])
        self.assertTrue(alike([live.left(), live.put(command=0), live.queue], [0, 1, (0, 1, 0)]))
        self.assertTrue(alike([live.put_amid(at=0, command=0), live.queue], [2, (0, 0, 1, 0)]))
        self.assertTrue(alike([live.put_amid(4, 1), live.queue], [1, (0, 0, 1, 0, 1)]))
        self.assertTrue(alike([live.change_amid(at=4, command=0), live.queue], [3, (0, 0, 1, 0, 0)]))
        self.assertTrue(alike([live.strike_amid(at=2), live.queue], [4, (0, 0, 0, 0)]))
        self.assertTrue(alike([live.change_amid(1, 1), live.fold_all(), live.queue], [2, 2, (0, 0)]))

    def test_the_edges(self):
        live = Live(Merger(CELL))
        self.assertTrue(alike([live.queue, live.left(), live.undo(), live.redo()], [(), 0, False, False]))
        # An edit that changes nothing is one, and forgets what was taken back.
        self.assertEqual((live.fold_all(), live.undo(), live.undo(), live.redo()), (0, True, False, True))
        self.assertEqual((live.put(0), live.undo(), live.queue), (1, True, ()))
        self.assertEqual((live.fold_all(), live.redo(), live.queue), (0, False, ()))
        self.assertEqual((live.undo(), live.undo(), live.undo()), (True, True, False))
        live = Live(Merger(CELL), (0, 0))
        live.put(1)
        live.undo()
        self.assertEqual((live.change_amid(0, 0), live.queue, live.redo()), (2, (0, 0), False))
        self.assertEqual((live.undo(), live.queue, live.undo()), (True, (0, 0), False))

    def test_two_do_not_know_of_one_another(self):
        queue = [0, 0]
        one, other = Live(Merger(CELL), queue), Live(Merger(CELL), queue)
        queue.append(1)
        one.put(0)
        self.assertEqual((one.queue, other.queue, other.undo()), ((0, 0, 0), (0, 0), False))


class Wrong(ErrorChecks, unittest.TestCase):
    def test_making(self):
        for rows in (SUMS, SWAPPED):
            four = uneven_four(Merger(rows))[1]
            self.raises(Uneven, four, Live, Merger(rows))
            self.raises(Uneven, four, Live, Merger(rows), 7)
        for value in any_values():
            at = queue_fault(value, 3)
            if at is None:
                self.assertEqual(Live(Merger(TURNS), value).queue, tuple(value))
            else:
                self.raises(BadQueue, at, Live, Merger(TURNS), value)

    def unchanged(self, error, carried, live, method, *args):
        before = whole(live)
        self.raises(error, carried, method, *args)
        self.assertEqual(whole(live), before)

    def test_indexes_then_commands(self):
        live = Live(Merger(TURNS), (0, 2, 0))
        live.put(1)
        live.put(2)
        live.undo()
        for value in any_values() + [3, 4, 5]:
            if not is_below(value, 5):
                self.unchanged(Refused, value, live, live.put_amid, value, 0)
                self.unchanged(Refused, value, live, live.put_amid, value, 9)
            if not is_below(value, 4):
                self.unchanged(Refused, value, live, live.change_amid, value, 0)
                self.unchanged(Refused, value, live, live.change_amid, value, 9)
                self.unchanged(Refused, value, live, live.strike_amid, value)
            if not is_below(value, 3):
                self.unchanged(NoCommand, value, live, live.put, value)
                self.unchanged(NoCommand, value, live, live.put_amid, 4, value)
                self.unchanged(NoCommand, value, live, live.change_amid, 3, value)
        self.assertEqual((live.redo(), live.queue), (True, (0, 2, 0, 1, 2)))
        empty = Live(Merger(CELL))
        self.unchanged(Refused, 0, empty, empty.strike_amid, 0)
        self.unchanged(Refused, 0, empty, empty.change_amid, 0, 0)
        self.unchanged(Refused, 1, empty, empty.put_amid, 1, 0)

    def test_no_more_than_ten_thousand(self):
        live = Live(Merger(CELL), (0, 0, 1) * 3333)
        self.assertEqual(live.put(0), 3334)
        self.raises(BadQueue, -1, live.put, 0)
        self.raises(BadQueue, -1, live.put_amid, 0, 0)
        self.raises(NoCommand, 2, live.put, 2)
        self.raises(NoCommand, True, live.put_amid, 0, True)
        self.raises(Refused, 10001, live.put_amid, 10001, 2)
        self.assertEqual((live.change_amid(9999, 1), len(live.queue)), (3332, 10000))
        self.assertEqual((live.strike_amid(0), live.put(1), live.undo(), live.undo()), (3331, 3330, True, True))


class Within(unittest.TestCase):
    def test_all_is_as_before(self):
        drawn = Drawn(563)
        for rows in [CELL, TURNS, LIFT, HANDED] + drawn_evens(564, 30):
            live = Live(Merger(rows), drawn.queue(len(rows), 4))
            for _ in range(12):
                edit(live, *drawn_edit(drawn, len(rows), len(live.queue)))
            for _ in range(drawn.below(8)):
                live.undo()
            before = whole(live)
            seed = drawn.below(1000)

            def work(inner):
                self.assertIs(inner, live)
                steps = Drawn(seed)
                for _ in range(15):
                    if steps.below(3):
                        edit(inner, *drawn_edit(steps, len(rows), len(inner.queue)))
                    else:
                        inner.undo()
                        inner.redo()
                        inner.undo()
                return inner.queue, inner.left()

            got = live.within(work=work)
            self.assertEqual(whole(live), before)
            self.assertEqual(got[1], len(plain_of(rows, got[0])[0]))
            self.assertEqual(live.within(work), got)

    def test_what_work_returns(self):
        live = Live(Merger(CELL), (0, 1))
        for value in (None, 7, [1], "x", live):
            self.assertIs(live.within(lambda inner: value), value)
        self.assertEqual(live.within(lambda inner: (inner.put(0), inner.put(0), inner.queue)), (1, 2, (0, 1, 0, 0)))
        self.assertEqual(live.queue, (0, 1))
        self.assertFalse(live.undo())

    def test_errors_are_passed_on(self):
        live = Live(Merger(CELL), (0,))
        live.put(1)
        live.put(1)
        live.undo()
        before = whole(live)
        for error in (Refused("x"), NoCommand(3), KeyError("x"), ZeroDivisionError(), AssertionError(), RuntimeError()):
            def work(inner):
                inner.put(0)
                inner.undo()
                inner.undo()
                inner.undo()
                inner.put(0)
                raise error

            with self.assertRaises(type(error)) as caught:
                live.within(work)
            self.assertIs(caught.exception, error)
            self.assertEqual(whole(live), before)
        with self.assertRaises(Refused):
            live.within(lambda inner: (inner.put(0), inner.strike_amid(9)))
        self.assertEqual(whole(live), before)

    def test_within_within(self):
        live = Live(Merger(CELL), (0,))
        seen = []

        def inner_work(inner):
            inner.put(0)
            return inner.queue

        def work(inner):
            inner.put(1)
            seen.append(inner.within(inner_work))
            seen.append(inner.queue)
            inner.undo()
            seen.append(inner.queue)
            return inner.left()

        self.assertEqual(live.within(work), 1)
        self.assertEqual(seen, [(0, 1, 0), (0, 1), (0,)])
        self.assertEqual(whole(live), [(0,), 1, 0, 0])


class Limits(unittest.TestCase):
    def test_two_hundred_commands_and_sixty_edits(self):
        drawn = Drawn(565)
        turn = tuple(tuple((one + other) % 12 for other in range(12)) for one in range(12))
        start = perf_counter()
        for rows in (turn, ((None,) * 12,) * 12):
            live = Live(Merger(rows), drawn.queue(12, 140))
            for _ in range(60):
                edit(live, *drawn_edit(drawn, 12, len(live.queue)))
            while live.undo():
                live.left()
            self.assertEqual(len(live.queue), 140)
        for _ in range(300):
            live = Live(Merger(CELL))
            for _ in range(20):
                live.put(0)
        self.assertLess(perf_counter() - start, 2)


if __name__ == "__main__":
    unittest.main()
