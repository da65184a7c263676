"""Points 54 and 55: trees, and lengths with one command less or more."""

import unittest
from time import perf_counter

from foursfold.classes import is_alike
from foursfold.courts import is_even, uneven_four
from foursfold.errors import BadQueue, NoCommand, Uneven
from foursfold.folding import plain_fold
from foursfold.joinings import cut_lengths, put_lengths, struck_lengths, tree_fold, tree_queue
from foursfold.mergers import Merger
from foursfold.pushes import end_length

from evens import DROPPED, FREE, TWICE, drawn_evens, named_evens, small_evens
from plainly import HUGE, Drawn, nested, plain_of
from samples import CELL, HANDED, KEPT, LAST, SUMS, SWAPPED, TURNS, drawn_ones, small_ones
from wrong import ErrorChecks, alike, any_values, is_below, is_list, queue_fault


def flat(tree):
    """The commands of a tree, in order."""
    return tuple(command for part in tree for command in (flat(part) if is_list(part) else (part,)))


def folded(rows, tree):
    """A tree folded, word for word as point 54 has it."""
    gave = tuple(command for part in tree for command in (folded(rows, part) if is_list(part) else (part,)))
    return plain_of(rows, gave)[0]


def depth_of(tree):
    return 1 + max([depth_of(part) for part in tree if is_list(part)], default=0)


def size_of(tree):
    """How many commands and trees are within a tree."""
    return sum(1 + (size_of(part) if is_list(part) else 0) for part in tree)


def is_tree(value, commands):
    """Whether any value of a moderate size is a tree."""
    def has_form(part):
        return all(map(has_form, part)) if is_list(part) else is_below(part, commands)

    return is_list(value) and has_form(value) and depth_of(value) <= 40 and size_of(value) <= 10000


def all_trees(queue):
    """All trees of a small queue: its commands, and of each stretch of two or more perhaps a tree."""
    def parts(first, last):
        if first == last:
            return [()]
        found = [(queue[first],) + rest for rest in parts(first + 1, last)]
        for middle in range(first + 1, last + 1):
            if (first, middle) != (0, len(queue)):
                for inner in parts(first, middle) if middle - first < last - first else []:
                    found += [(inner,) + rest for rest in parts(middle, last)]
        return found

    return parts(0, len(queue))


def drawn_tree(drawn, commands, depth, many):
    tree = []
    for _ in range(drawn.below(many + 1)):
        if depth > 1 and drawn.below(3) == 0:
            tree.append(drawn_tree(drawn, commands, depth - 1, many))
        else:
            tree.append(drawn.below(commands))
    return tuple(tree) if drawn.below(2) else tree


class Trees(ErrorChecks, unittest.TestCase):
    def test_drawn_trees(self):
        drawn = Drawn(541)
        for rows in small_ones(60) + drawn_ones(542, 80):
            for _ in range(4):
                tree = drawn_tree(drawn, len(rows), 4, 5)
                self.assertTrue(alike(tree_queue(merger=Merger(rows), tree=tree), flat(tree)))
                self.assertTrue(alike(tree_fold(merger=Merger(rows), tree=tree), folded(rows, tree)))

    def test_one_class_in_even_mergers(self):
        drawn = Drawn(543)
        for rows in named_evens() + drawn_evens(544, 60):
            merger = Merger(rows)
            for _ in range(4):
                tree = drawn_tree(drawn, len(rows), 4, 5)
                queue = tree_queue(merger, tree)
                left = tree_fold(merger, tree)
                self.assertEqual(len(left), end_length(merger, queue))
                self.assertTrue(is_alike(merger, left, plain_fold(merger, queue)))

    def test_all_trees_of_small_queues(self):
        drawn, seen = Drawn(545), set()
        for rows in [CELL, TURNS, KEPT, HANDED, LAST] + small_evens(200) + [SUMS, SWAPPED]:
            merger = Merger(rows)
            queue = (0, 1, 2, 0) if rows == HANDED else drawn.queue(len(rows), 4)
            for tree in all_trees(queue):
                self.assertEqual(tree_queue(merger, tree), queue)
                left = tree_fold(merger, tree)
                self.assertEqual(left, folded(rows, tree))
                seen.add(tree_fold(merger, tree) == plain_fold(merger, queue))
                if is_even(merger):
                    self.assertTrue(is_alike(merger, left, queue))
        self.assertEqual(seen, {True, False})

    def test_the_edges(self):
        for tree in ((), [], [()], [[], [[]]], ((), ((), ()))):
            self.assertEqual(tree_queue(Merger(CELL), tree), ())
            self.assertEqual(tree_fold(Merger(CELL), tree), ())
        self.assertEqual(tree_fold(Merger(CELL), [[0, 1], [0, [0]]]), (0, 0))
        self.assertEqual(tree_queue(Merger(CELL), [[0, 1], [0, [0]]]), (0, 1, 0, 0))
        # The plain way leaves 0 4; if the last two are folded first, 3 2 is left.
        self.assertEqual(tree_fold(Merger(HANDED), [0, [1, 2]]), (0, 4))
        self.assertEqual(tree_fold(Merger(HANDED), [0, 1, 2]), (3, 2))

    def test_any_value(self):
        deep = [nested(depth) for depth in (1, 39, 40)] + [[nested(39)], [nested(40)], (0, [nested(39), 1])]
        many = [[0] * 10000, [0] * 10001, [[0] * 9999], [[0] * 10000], [[]] * 10000, [[]] * 10001, [[0, []]] * 3333]
        many += [[[0, []]] * 3334, [[0] * 5000, [0] * 4998], [[0] * 5000, [0] * 4999]]
        mixed = [[0, [1, None]], [0, [1, True]], [0, [2]], [0, [1, [-1]]], [[["0"]]], [[], "", 0], [HUGE], [[Merger(CELL)]]]
        for value in any_values() + deep + many + mixed:
            for function in (tree_queue, tree_fold):
                if is_tree(value, 2):
                    want = flat(value) if function == tree_queue else folded(CELL, value)
                    self.assertTrue(alike(function(Merger(CELL), value), want))
                else:
                    self.raises(BadQueue, -1, function, Merger(CELL), value)

    def test_what_is_told_over_and_over(self):
        # A tree of which each part is told twice is great, though it is made soon.
        tree = [0]
        for _ in range(35):
            tree = [tree, tree]
        start = perf_counter()
        for function in (tree_queue, tree_fold):
            self.raises(BadQueue, -1, function, Merger(CELL), tree)
        self.assertLess(perf_counter() - start, 1)

    def test_the_limits(self):
        drawn = Drawn(546)
        tree = []
        for at in range(40):
            tree = [drawn.below(12) for _ in range(5)] + ([tree] if at else [])
            if at % 2:
                tree = tree[::-1]
        self.assertEqual((depth_of(tree), len(flat(tree))), (40, 200))
        start = perf_counter()
        for rows in (((None,) * 12,) * 12, (tuple(range(12)),) * 12):
            self.assertEqual(tree_queue(Merger(rows), tree), flat(tree))
            self.assertEqual(tree_fold(Merger(rows), tree), folded(rows, tree))
        for _ in range(1000):
            tree_fold(Merger(CELL), [[0, 1], [0, [0]]])
        self.assertLess(perf_counter() - start, 1)


class Lengths(ErrorChecks, unittest.TestCase):
    def left(self, rows, queue):
        return len(plain_of(rows, tuple(queue))[0])

    def check(self, rows, queue):
        merger = Merger(rows)
        places = range(len(queue) + 1)
        want = tuple(self.left(rows, queue[:at] + queue[at + 1:]) for at in range(len(queue)))
        self.assertTrue(alike(struck_lengths(merger=merger, queue=list(queue)), want))
        for command in range(len(rows)):
            want = tuple(self.left(rows, queue[:at] + (command,) + queue[at:]) for at in places)
            self.assertTrue(alike(put_lengths(merger=merger, queue=list(queue), command=command), want))
        want = tuple(self.left(rows, queue[:at]) + self.left(rows, queue[at:]) for at in places)
        self.assertTrue(alike(cut_lengths(merger=merger, queue=list(queue)), want))

    def test_drawn_queues(self):
        drawn = Drawn(551)
        for rows in named_evens() + drawn_evens(552, 120) + small_evens(30):
            for _ in range(4):
                self.check(rows, drawn.queue(len(rows), drawn.below(12)))

    def test_the_edges(self):
        for rows in (CELL, FREE, DROPPED, TWICE, TURNS):
            self.check(rows, ())
            self.assertEqual(struck_lengths(Merger(rows), ()), ())
            self.assertEqual(put_lengths(Merger(rows), (), 0), (1,))
            self.assertEqual(cut_lengths(Merger(rows), ()), (0,))
            for length in (1, 2, 7, 8):
                self.check(rows, (0,) * length)
        # All goes; but not if one is struck, or put, or if it is cut.
        queue = (0,) * 6 + (1,) * 6
        self.check(CELL, queue)
        self.assertEqual(cut_lengths(Merger(CELL), queue), (0, 2, 4, 6, 8, 10, 12, 10, 8, 6, 4, 2, 0))
        self.assertEqual(struck_lengths(Merger(CELL), queue), (1,) * 12)

    def test_uneven_ahead_of_all_else(self):
        for rows in (SUMS, SWAPPED):
            four = uneven_four(Merger(rows))[1]
            for value in any_values():
                self.raises(Uneven, four, struck_lengths, Merger(rows), value)
                self.raises(Uneven, four, cut_lengths, Merger(rows), value)
                self.raises(Uneven, four, put_lengths, Merger(rows), value, value)

    def test_wrong_queues_and_commands(self):
        for value in any_values():
            at = queue_fault(value, 3)
            if at is not None:
                self.raises(BadQueue, at, struck_lengths, Merger(TURNS), value)
                self.raises(BadQueue, at, cut_lengths, Merger(TURNS), value)
                self.raises(BadQueue, at, put_lengths, Merger(TURNS), value, value)
            if is_below(value, 3):
                self.assertEqual(len(put_lengths(Merger(TURNS), [0, 1], value)), 3)
            else:
                self.raises(NoCommand, value, put_lengths, Merger(TURNS), [0, 1], value)

    def test_the_limits(self):
        drawn = Drawn(553)
        turn = tuple(tuple((one + other) % 12 for other in range(12)) for one in range(12))
        pairs = tuple(tuple(-1 if one + other == 11 else None for other in range(12)) for one in range(12))
        start = perf_counter()
        for rows in (turn, pairs, ((None,) * 12,) * 12):
            for queue in (drawn.queue(12, 200), (0,) * 100 + (11,) * 100):
                merger = Merger(rows)
                struck, put, cut = struck_lengths(merger, queue), put_lengths(merger, queue, 0), cut_lengths(merger, queue)
                self.assertEqual((len(struck), len(put), len(cut)), (200, 201, 201))
                left = self.left(rows, queue)
                self.assertEqual((cut[0], cut[200]), (left, left))
                for at in (0, 77, 199):
                    self.assertEqual(struck[at], self.left(rows, queue[:at] + queue[at + 1:]))
                    self.assertEqual(put[at], self.left(rows, queue[:at] + (0,) + queue[at:]))
                    self.assertEqual(cut[at], self.left(rows, queue[:at]) + self.left(rows, queue[at:]))
        merger = Merger(CELL)
        for _ in range(1000):
            struck_lengths(merger, (0, 1, 0))
            put_lengths(merger, (0, 1, 0), 1)
            cut_lengths(merger, (0, 1, 0))
        self.assertLess(perf_counter() - start, 2)


if __name__ == "__main__":
    unittest.main()
