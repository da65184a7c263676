"""Point 34: chains."""

import unittest

from foursfold.chains import chain_holds, chain_paper
from foursfold.classes import class_size, is_alike
from foursfold.courts import is_even
from foursfold.errors import BadQueue, TooGreat
from foursfold.houses import house_parting, is_house
from foursfold.mergers import Merger

from evens import PARTED, amalgam, drawn_evens, named_evens, nine, small_evens
from plainly import Drawn, all_queues, machine_rows, drawn_machine, nested, plain_of
from samples import CELL, HURRIED, LEFT, MIDDLE, RIGHT, SUMS, SWAPPED, TURNS, drawn_ones, named_ones, small_ones, two_ends
from slowly import queues_to
from wrong import ErrorChecks, any_values, no_lists, queue_fault


def even_samples():
    return small_evens(20) + named_evens() + drawn_evens(341, 80)


def uneven_samples():
    """Mergers that are not even, of which some commands cannot be split on and on."""
    found = [SUMS, HURRIED, LEFT, MIDDLE, RIGHT, SWAPPED, two_ends()] + named_ones() + drawn_ones(342, 300) + small_ones(30)
    return [rows for rows in found if not is_even(Merger(rows))]


def one_merge(rows, one, other):
    """Whether one merge leads from one queue to the other."""
    for place in range(len(one) - 1):
        end = rows[one[place]][one[place + 1]]
        if end is not None:
            if one[:place] + (() if end == -1 else (end,)) + one[place + 2:] == other:
                return True
    return False


def is_chain(rows, one, other, queues):
    if not queues or queues[0] != one or queues[-1] != other:
        return False
    return all(one_merge(rows, a, b) or one_merge(rows, b, a) for a, b in zip(queues, queues[1:]))


def neighbours(rows, queue):
    """All queues one merge away, from either side."""
    found = set()
    for at in range(len(queue) + 1):
        for one, row in enumerate(rows):
            for other, end in enumerate(row):
                if end == -1:
                    found.add(queue[:at] + (one, other) + queue[at:])
                if end is not None and queue[at:at + 1] == (end,):
                    found.add(queue[:at] + (one, other) + queue[at + 1:])
                if end is not None and queue[at:at + 2] == (one, other):
                    found.add(queue[:at] + (() if end == -1 else (end,)) + queue[at + 2:])
    return found


def all_chained(rows, queue, most):
    """All queues that chains from one have, None if they are more than that."""
    found, waiting = {queue}, [queue]
    for one in waiting:
        for other in neighbours(rows, one):
            if other not in found:
                if len(found) == most:
                    return None
                found.add(other)
                waiting.append(other)
    return found


class EvenChains(ErrorChecks, unittest.TestCase):
    def test_if_and_only_if_they_do_the_same(self):
        drawn = Drawn(343)
        told = []
        for rows in even_samples():
            merger = Merger(rows)
            for _ in range(8):
                one = drawn.queue(len(rows), drawn.below(7))
                ways = sorted(all_queues(rows, one))
                other = drawn.pick(ways) if drawn.below(2) else drawn.queue(len(rows), drawn.below(7))
                paper = chain_paper(merger, list(one), list(other))
                self.assertEqual(paper is not None, is_alike(merger, one, other))
                told.append(paper is not None)
                if paper is not None:
                    self.check_paper(merger, one, other, paper)
        self.assertTrue(200 < sum(told) < len(told) - 200)

    def check_paper(self, merger, one, other, paper):
        word, queues = paper
        self.assertEqual(word, "chain")
        self.assertTrue(no_lists(paper))
        self.assertTrue(is_chain(merger.rows, one, other, queues))
        self.assertIs(chain_holds(merger, list(one), list(other), paper), True)
        self.assertIs(chain_holds(merger, one, other, ["chain", list(map(list, queues))]), True)
        self.assertIs(chain_holds(merger, other, one, ("chain", queues[::-1])), True)

    def test_hand_overs(self):
        merger = Merger(nine())
        paper = chain_paper(merger, (0, 1, 8), (6, 4, 7))
        self.check_paper(merger, (0, 1, 8), (6, 4, 7), paper)
        paper = chain_paper(merger, (0, 1, 2, 7), (0, 3, 4, 7))
        self.check_paper(merger, (0, 1, 2, 7), (0, 3, 4, 7), paper)
        self.assertIsNone(chain_paper(merger, (0, 1, 8), (6, 4, 8)))

    def test_long_queues(self):
        drawn = Drawn(344)
        for rows in (amalgam(2, 2, 2), amalgam(2, 2, 3), TURNS, CELL):
            merger = Merger(rows)
            for _ in range(6):
                one = drawn.queue(len(rows), 12)
                other = drawn.pick(sorted(all_queues(rows, one[:6]))) + one[6:]
                self.check_paper(merger, one, other, chain_paper(merger, one, other))

    def test_most_is_for_the_class(self):
        merger = Merger(amalgam(2, 2, 2))
        queue, other = (0, 3, 0, 3, 0), (3, 0, 3, 0, 3)
        size = class_size(merger, queue)
        self.assertEqual(size, 16)
        self.assertIsNone(chain_paper(merger, queue, other, most=size))
        for most in (1, 5, 15):
            self.raises(TooGreat, most, chain_paper, merger, queue, other, most=most)
        with self.assertRaises(TypeError):
            chain_paper(merger, queue, other, 20)

    def test_single_commands_are_never_taken_for_one(self):
        for rows in even_samples():
            for one in range(len(rows)):
                for other in range(one):
                    self.assertIsNone(chain_paper(Merger(rows), (one,), (other,)))
                self.assertIsNone(chain_paper(Merger(rows), (), (one,)))


class UnevenChains(ErrorChecks, unittest.TestCase):
    def test_samples(self):
        drawn = Drawn(345)
        found, ended = 0, 0
        for rows in uneven_samples():
            merger = Merger(rows)
            for _ in range(3):
                one = drawn.queue(len(rows), 1 + drawn.below(4))
                chained = all_chained(rows, one, 150)
                if chained is None:
                    self.check_endless(merger, one, drawn)
                    continue
                ended += 1
                for other in [drawn.pick(sorted(chained)), drawn.queue(len(rows), 3)]:
                    paper = chain_paper(merger, list(one), list(other), most=len(chained))
                    self.assertEqual(paper is not None, other in chained)
                    if paper is not None:
                        found += 1
                        self.assertTrue(is_chain(rows, one, other, paper[1]))
                        self.assertIs(chain_holds(merger, one, other, paper), True)
        self.assertGreater(min(found, ended), 100)

    def check_endless(self, merger, one, drawn):
        """What is returned is right; else there are more queues than that."""
        other = drawn.pick(sorted(all_queues(merger.rows, one)))
        try:
            paper = chain_paper(merger, one, other, most=100)
        except TooGreat as error:
            self.assertEqual(error.most, 100)
        else:
            self.assertTrue(is_chain(merger.rows, one, other, paper[1]))

    def test_single_commands_that_must_be_taken_for_one(self):
        merger = Merger(two_ends())
        paper = chain_paper(most=5000, other=(1,), one=(0,), merger=merger)
        self.assertTrue(is_chain(merger.rows, (0,), (1,), paper[1]))
        self.assertGreater(max(map(len, paper[1])), 2)
        self.assertIsNone(chain_paper(merger, (2,), (3,)))
        self.assertIsNone(chain_paper(merger, (2,), ()))

    def test_houses_do_not_part_them(self):
        drawn = Drawn(346)
        seen = 0
        while seen < 60:
            tables = drawn_machine(drawn, 2 + drawn.below(3), 3)
            rows = machine_rows(tables)
            if is_even(Merger(rows)):
                continue
            self.assertTrue(is_house(Merger(rows), tables))
            one, other = drawn.queue(len(rows), 4), drawn.queue(len(rows), 3)
            seen += 1
            try:
                paper = chain_paper(Merger(rows), one, other, most=300)
            except TooGreat:
                continue
            if paper is not None:
                self.assertIsNone(house_parting(Merger(rows), tables, one, other))

    def test_most(self):
        merger = Merger(SUMS)
        chained = all_chained(SUMS, (2, 2, 2), 10000)
        self.assertIsNone(chain_paper(merger, (2, 2, 2), (1, 1), most=len(chained)))
        for most in {1, len(chained) // 2, len(chained) - 1}:
            self.raises(TooGreat, most, chain_paper, merger, (2, 2, 2), (1, 1), most=most)
        self.assertEqual(chain_paper(merger, (2, 2, 2), [2, 2, 2], most=1), ("chain", ((2, 2, 2),)))

    def test_no_end_of_queues(self):
        # The last command comes of two of itself: its queues have no end.
        rows = tuple(row + (None,) for row in SUMS) + ((None, None, None, 3),)
        merger = Merger(rows)
        self.assertFalse(is_even(merger))
        self.raises(TooGreat, 5000, chain_paper, merger, (3,), (0,))
        self.raises(TooGreat, 20000, chain_paper, merger, (3, 3, 0), (3, 3, 1), most=20000)
        paper = chain_paper(merger, (3,) * 12, (3,))
        self.assertTrue(is_chain(rows, (3,) * 12, (3,), paper[1]))
        # Two that go may be put anywhere.
        rows = tuple(row + (None,) for row in SUMS) + ((None, None, None, -1),)
        self.raises(TooGreat, 5000, chain_paper, Merger(rows), (0,), (1,))
        paper = chain_paper(Merger(rows), (0, 3, 3, 1, 3), (2, 3))
        self.assertTrue(is_chain(rows, (0, 3, 3, 1, 3), (2, 3), paper[1]))
        # But what cannot be reached so is told, if there is an end.
        rows = tuple(row + (None,) for row in SUMS) + ((None, None, None, 3),)
        self.assertIsNone(chain_paper(Merger(rows), (0, 0), (0,)))

    def test_long_queues_that_come_to_an_end(self):
        # Each command comes of two of the one before it: 16 of the first make the last.
        rows = tuple(tuple(one + 1 if one == other < 4 else None for other in range(5)) for one in range(5))
        merger = Merger(rows)
        self.assertFalse(is_even(merger))
        chained = all_chained(rows, (4,), 20000)
        self.assertIn((0,) * 16, chained)
        self.assertIsNone(chain_paper(merger, (4,), (3,), most=len(chained)))
        self.raises(TooGreat, len(chained) - 1, chain_paper, merger, (4,), (3,), most=len(chained) - 1)

    def test_queues_of_twelve(self):
        drawn = Drawn(347)
        for rows in (SUMS, HURRIED, two_ends(), MIDDLE):
            one = drawn.queue(len(rows), 12)
            other = plain_of(rows, one)[0]
            try:
                paper = chain_paper(Merger(rows), one, other)
            except TooGreat as error:
                self.assertEqual(error.most, 5000)
                self.assertIsNone(all_chained(rows, one, 5000))
            else:
                self.assertTrue(is_chain(rows, one, other, paper[1]))


class Holds(ErrorChecks, unittest.TestCase):
    def test_all_short_values(self):
        for rows in (SUMS, CELL, TURNS, PARTED[0]):
            merger, queues = Merger(rows), queues_to(len(rows), 3)
            for one in queues:
                self.assertIs(chain_holds(merger, one, one, ("chain", (one,))), True)
                self.assertIs(chain_holds(merger, one, one, ("chain", (one, one))), False)
                for other in queues:
                    want = is_chain(rows, one, other, (one, other))
                    self.assertIs(chain_holds(merger, one, other, ("chain", (one, other))), want)
                    self.assertIs(chain_holds(merger, one, other, ("chain", (other, one))), one == other and want)

    def test_any_values(self):
        for merger in (Merger(SUMS), Merger(TURNS)):
            for value in any_values() + [nested(40)]:
                self.assertIs(chain_holds(merger, (0,), (0,), value), False)
                self.assertIs(chain_holds(merger, (0,), (0,), (value, ((0,),))), False)
                self.assertIs(chain_holds(merger, (0,), (0,), ("chain", ((0,),), value)), False)
                good = type(value) in (list, tuple) and len(value) == 1 and value[0] in ((0,), [0])
                self.assertIs(chain_holds(merger, (0,), (0,), ("chain", value)), good)
                good = type(value) in (list, tuple) and len(value) == 1 and type(value[0]) is int and value[0] == 0
                self.assertIs(chain_holds(merger, (0,), (0,), ["chain", [value]]), good)
                self.assertIs(chain_holds(merger, (0,), (1,), ("chain", [(0,), value, (1,)])), False)
        self.assertIs(chain_holds(Merger(CELL), (0,), (0,), ("chain", [[0], [0, True, 0], [0]])), False)
        self.assertIs(chain_holds(Merger(CELL), (0,), (0,), ("chain", [[0], [0, 1, 0], [0]])), True)
        self.assertIs(chain_holds(Merger(CELL), (0,), (0,), ("Chain", [[0]])), False)

    def test_long_papers(self):
        merger = Merger(CELL)
        queues = [(0, 1) * at for at in range(1000)]
        self.assertIs(chain_holds(merger, (), queues[-1], ("chain", queues)), True)
        self.assertIs(chain_holds(merger, (), queues[-1], ("chain", queues[:500] + queues[501:])), False)
        long = (0,) * 10000
        self.assertIs(chain_holds(Merger(((0,),)), long, long[1:], ("chain", (long, long[1:]))), True)
        self.assertIs(chain_holds(Merger(((0,),)), long, long, ("chain", (long, long + (0,), long))), False)

    def test_bad_queues(self):
        for rows in (SUMS, TURNS):
            for value in any_values():
                at = queue_fault(value, 3)
                if at is not None:
                    self.raises(BadQueue, at, chain_paper, Merger(rows), value, "no queue", most=1)
                    self.raises(BadQueue, at, chain_paper, Merger(rows), (0,), value, most=1)
                    self.raises(BadQueue, at, chain_holds, Merger(rows), value, "no queue", value)
                    self.raises(BadQueue, at, chain_holds, Merger(rows), (0,), value, value)


if __name__ == "__main__":
    unittest.main()
