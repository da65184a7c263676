"""Points 52 and 53: names, and what does not hang on them."""

import unittest
from itertools import permutations
from math import factorial
from time import perf_counter

from foursfold.classes import class_place, class_size
from foursfold.courts import (
    bag_queue, four_numbers, hand_triples, is_even, is_single, merger_word, uneven_four, uneven_fours,
)
from foursfold.errors import TooGreat
from foursfold.folding import plain_fold
from foursfold.mergers import Merger, beside_mergers, mirror_merger, named_merger
from foursfold.namings import own_renamings, renaming
from foursfold.pushes import end_length

from evens import DROPPED, FREE, TWICE, amalgam, drawn_evens, named_evens, nine
from plainly import Drawn
from samples import CELL, LAST, SUMS, TURNS, drawn_ones, named_ones, small_ones, sums_to
from wrong import ErrorChecks, alike


def is_renaming(one, other, names):
    """Whether two commands merge in the one exactly as their names do in the other."""
    def named(end):
        return end if end in (None, -1) else names[end]

    many = range(len(one))
    return all(other[names[x]][names[y]] == named(one[x][y]) for x in many for y in many)


def all_renamings(one, other):
    """All renamings, ascending, by all orders of names."""
    if len(one) != len(other):
        return []
    return [names for names in permutations(range(len(one))) if is_renaming(one, other, names)]


def drawn_names(drawn, many):
    names = list(range(many))
    for at in range(many):
        other = drawn.below(many)
        names[at], names[other] = names[other], names[at]
    return tuple(names)


def samples():
    return small_ones(20) + [rows for rows in named_ones() + drawn_ones(521, 120) if len(rows) < 7]


class Renamings(ErrorChecks, unittest.TestCase):
    def test_the_least_by_all_orders(self):
        drawn = Drawn(522)
        for rows in samples():
            other = named_merger(Merger(rows), drawn_names(drawn, len(rows)))
            found = all_renamings(rows, other.rows)
            got = renaming(one=Merger(rows), other=other)
            self.assertTrue(alike(got, found[0]))
            self.assertEqual(named_merger(Merger(rows), got), other)
            self.assertTrue(alike(own_renamings(merger=Merger(rows)), len(found)))

    def test_none(self):
        drawn, seen = Drawn(523), 0
        some = samples()
        for rows in some:
            other = drawn.pick([other for other in some if len(other) == len(rows)])
            found = all_renamings(rows, other)
            self.assertEqual(renaming(Merger(rows), Merger(other)), found[0] if found else None)
            seen += not found
        self.assertGreater(seen, 100)
        self.assertIsNone(renaming(Merger(CELL), Merger(TURNS)))
        self.assertIsNone(renaming(Merger(TURNS), Merger(CELL)))

    def test_nearly_one_another(self):
        # One end is another one: as many of each kind, but seldom a renaming.
        drawn, seen = Drawn(524), 0
        for rows in drawn_ones(525, 400):
            if len(rows) > 6:
                continue
            other = [list(row) for row in named_merger(Merger(rows), drawn_names(drawn, len(rows))).rows]
            cells = [(x, y) for x in range(len(rows)) for y in range(len(rows))]
            (a, b), (c, d) = drawn.pick(cells), drawn.pick(cells)
            other[a][b], other[c][d] = other[c][d], other[a][b]
            try:
                changed = Merger(other)
            except ValueError:
                continue
            found = all_renamings(rows, changed.rows)
            self.assertEqual(renaming(Merger(rows), changed), found[0] if found else None)
            seen += not found
        self.assertGreater(seen, 25)

    def test_how_many(self):
        # What merges tells the turns apart, but for the least ones.
        for rows, many in ((FREE, 6), (CELL, 2), (LAST, 2), (SUMS, 1), (TURNS, 2), (DROPPED, 1), (TWICE, 1), (nine(), 1)):
            self.assertEqual(own_renamings(Merger(rows)), many)
        seven = tuple(
            tuple(-1 if one == other else (one ^ other) - 1 for other in range(1, 8)) for one in range(1, 8)
        )
        self.assertEqual(own_renamings(Merger(seven)), 168)
        for commands in range(1, 7):
            self.assertEqual(own_renamings(Merger([(None,) * commands] * commands)), factorial(commands))

    def test_most(self):
        for commands in (3, 4, 5, 6):
            many, merger = factorial(commands), Merger([tuple(range(commands))] * commands)
            for most in (1, 2, many - 1, many, many + 1):
                if most < many:
                    self.raises(TooGreat, most, own_renamings, merger, most=most)
                else:
                    self.assertEqual(own_renamings(merger, most=most), many)
        for merger in (Merger([(None,) * 7] * 7), Merger([(None,) * 8] * 8)):
            self.raises(TooGreat, 5000, own_renamings, merger)
        self.assertEqual(own_renamings(Merger([(None,) * 7] * 7), most=5040), 5040)
        with self.assertRaises(TypeError):
            own_renamings(Merger(CELL), 5)

    def test_the_limits(self):
        turn = tuple(tuple((one + other) % 8 for other in range(8)) for one in range(8))
        apart = tuple(tuple(one ^ other for other in range(8)) for one in range(8))
        pairs = tuple(tuple(-1 if one + other == 7 else None for other in range(8)) for one in range(8))
        start = perf_counter()
        for rows, many in (
            (turn, 4), (apart, 168), (pairs, 384), (sums_to(8), 1), (amalgam(2, 2, 2), None),
            (((None,) * 8,) * 8, None), ((tuple(range(8)),) * 8, None),
        ):
            merger = Merger(rows)
            for seed in range(10):
                names = drawn_names(Drawn(seed + 526), len(rows))
                other = named_merger(merger, names)
                got = renaming(merger, other)
                self.assertTrue(is_renaming(rows, other.rows, got))
                self.assertLessEqual(got, names)
                if many is not None:
                    self.assertEqual(own_renamings(other), many)
                else:
                    try:
                        own_renamings(other)
                    except TooGreat as error:
                        self.assertEqual(error.most, 5000)
        self.assertLess(perf_counter() - start, 2)


class Kept(unittest.TestCase):
    """Point 53: what does not hang on names."""

    def test_verdicts(self):
        drawn = Drawn(531)
        for rows in named_ones() + drawn_ones(532, 60) + small_ones(60):
            merger, names = Merger(rows), drawn_names(drawn, len(rows))
            other = named_merger(merger, names)
            self.assertEqual(is_even(merger), is_even(other))
            self.assertEqual(is_single(merger), is_single(other))
            self.assertEqual(merger_word(merger), merger_word(other))
            self.assertEqual(four_numbers(merger), four_numbers(other))
            self.assertEqual(bag_queue(merger) is None, bag_queue(other) is None)
            self.assertEqual(len(hand_triples(merger)), len(hand_triples(other)))
            fours = sorted((tuple(names[z] for z in four), kind) for four, kind in uneven_fours(merger))
            self.assertEqual(tuple(fours), uneven_fours(other))

    def test_lengths_and_classes(self):
        drawn = Drawn(533)
        for rows in named_evens() + drawn_evens(534, 40):
            merger, names = Merger(rows), drawn_names(drawn, len(rows))
            other = named_merger(merger, names)
            for length in (3, 6, 9):
                queue = drawn.queue(len(rows), length)
                named = tuple(names[command] for command in queue)
                self.assertEqual(end_length(merger, queue), end_length(other, named))
                folded = plain_fold(merger, queue)
                mapped = tuple(names[command] for command in folded)
                self.assertEqual(class_size(merger, folded), class_size(other, mapped))
                self.assertIsNotNone(class_place(other, mapped, plain_fold(other, named)))

    def test_mirrors(self):
        for rows in named_ones() + drawn_ones(535, 60) + small_ones(60):
            merger, mirror = Merger(rows), mirror_merger(Merger(rows))
            self.assertEqual(is_even(merger), is_even(mirror))
            middle, left, right = four_numbers(merger)
            self.assertEqual(four_numbers(mirror), (middle, right, left))
            kinds = {"middle": "middle", "left": "right", "right": "left"}
            fours = sorted((four[::-1], kinds[kind]) for four, kind in uneven_fours(merger))
            self.assertEqual(tuple(fours), uneven_fours(mirror))

    def test_beside_one_another(self):
        drawn = Drawn(536)
        some = [rows for rows in named_ones() + drawn_ones(537, 40) + drawn_evens(538, 40) if len(rows) < 7]
        for at, rows in enumerate(some):
            one, other = Merger(rows), Merger(some[at * 7 % len(some)])
            both = beside_mergers(one, other)
            self.assertEqual(is_even(both), is_even(one) and is_even(other))
            if uneven_four(one) is not None:
                self.assertIn(uneven_four(one)[::-1], uneven_fours(both))
            if not is_even(both):
                continue
            for length in (4, 8, 12):
                queue = drawn.queue(both.commands, length)
                self.assertEqual(end_length(both, queue), self.by_stretches(one, other, queue))

    def by_stretches(self, one, other, queue):
        """How many are left if stretches of each are folded, till none goes away."""
        stretches = [(command >= one.commands, (command,)) for command in queue]
        at = 0
        while at + 1 < len(stretches):
            if stretches[at][0] != stretches[at + 1][0]:
                at += 1
                continue
            side, commands = stretches[at][0], stretches[at][1] + stretches[at + 1][1]
            shift = one.commands if side else 0
            told = plain_fold(other if side else one, tuple(command - shift for command in commands))
            stretches[at:at + 2] = [(side, tuple(command + shift for command in told))] if told else []
            at = max(0, at - 1)
        return sum(len(commands) for _, commands in stretches)


if __name__ == "__main__":
    unittest.main()
