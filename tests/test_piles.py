"""Points 41 to 43: how many queues are left at how many commands."""

import unittest
from fractions import Fraction
from itertools import product
from time import perf_counter

from foursfold.courts import is_even
from foursfold.errors import Refused
from foursfold.folding import folded_queues
from foursfold.mergers import Merger
from foursfold.piles import Piles, left_numbers, mean_left

from evens import DROPPED, FREE, TWICE, drawn_evens
from plainly import Drawn, plain_of
from samples import CELL, LAST, SUMS, TURNS, drawn_ones, named_ones, small_ones, sums_to, two_ends
from wrong import ErrorChecks, alike, any_values, is_below, no_lists


def samples():
    return small_ones(30) + named_ones() + drawn_ones(411, 60) + [DROPPED, TWICE, FREE]


def length_for(rows):
    """The greatest length of which all queues are looked at."""
    return max(length for length in range(8) if len(rows) ** length <= 800)


def counts_of(rows, length):
    """By number, how many queues the plain way leaves so, up to the last that is not 0."""
    lefts = [len(plain_of(rows, queue)[0]) for queue in product(range(len(rows)), repeat=length)]
    return tuple(lefts.count(left) for left in range(max(lefts) + 1))


class Numbers(ErrorChecks, unittest.TestCase):
    def test_all_queues_of_a_length(self):
        for rows in samples():
            for length in range(length_for(rows) + 1):
                want = counts_of(rows, length)
                got = left_numbers(Merger(rows), length)
                self.assertTrue(alike(got, want), (rows, length, got, want))
                self.assertEqual(sum(got), len(rows) ** length)

    def test_the_mean(self):
        for rows in samples():
            for length in range(length_for(rows) + 1):
                counts = counts_of(rows, length)
                mean = Fraction(sum(left * many for left, many in enumerate(counts)), sum(counts))
                want = (mean.numerator, mean.denominator)
                self.assertTrue(alike(mean_left(merger=Merger(rows), length=length), want))

    def test_the_edges(self):
        for rows in samples():
            self.assertTrue(alike(left_numbers(Merger(rows), 0), (1,)))
            self.assertTrue(alike(mean_left(Merger(rows), 0), (0, 1)))
            self.assertTrue(alike(left_numbers(Merger(rows), 1), (0, len(rows))))
            self.assertTrue(alike(mean_left(Merger(rows), 1), (1, 1)))
        for length in range(13):
            # Nothing merges; all goes, two by two; all merges; just the last one counts.
            self.assertEqual(left_numbers(Merger(FREE), length), (0,) * length + (3 ** length,))
            self.assertEqual(left_numbers(Merger(TWICE), length), (0, 1) if length % 2 else (1,))
            self.assertEqual(left_numbers(Merger(DROPPED), length), (0, 1) if length else (1,))
            self.assertEqual(left_numbers(Merger(LAST), length), (0, 2 ** length) if length else (1,))
            self.assertEqual(mean_left(Merger(FREE), length), (length, 1))

    def test_there_and_back(self):
        # 0 and 1 go with one another: what is left is how far a walk has come.
        self.assertEqual(left_numbers(Merger(CELL), 4), (6, 0, 8, 0, 2))
        numbers = left_numbers(merger=Merger(CELL), length=40)
        ways = [1]
        for _ in range(40):
            ways = [one + other for one, other in zip([0] + ways, ways + [0])]
        want = [ways[20]] + [0 if left % 2 else 2 * ways[20 + left // 2] for left in range(1, 41)]
        self.assertEqual(numbers, tuple(want))

    def test_whichever_way_in_even_mergers(self):
        for rows in drawn_evens(412, 30, 4):
            self.assertTrue(is_even(Merger(rows)))
            lefts = []
            for queue in product(range(len(rows)), repeat=4 if len(rows) < 5 else 3):
                found = {len(folded) for folded in folded_queues(Merger(rows), queue, most=20000)}
                self.assertEqual(len(found), 1)
                lefts.extend(found)
            want = tuple(lefts.count(left) for left in range(max(lefts) + 1))
            self.assertEqual(left_numbers(Merger(rows), 4 if len(rows) < 5 else 3), want)

    def test_refused_lengths(self):
        for value in any_values() + [40, 41, 100]:
            for function in (left_numbers, mean_left):
                if is_below(value, 41):
                    self.assertTrue(no_lists(function(Merger(TURNS), value)))
                else:
                    self.raises(Refused, value, function, Merger(TURNS), value)

    def test_at_the_limits(self):
        twelves = [sums_to(12), two_ends(), ((None,) * 12,) * 12, (tuple(range(12)),) * 12]
        twelves.append(tuple(tuple((one + other) % 12 for other in range(12)) for one in range(12)))
        fours = [sums_to(4), ((None,) * 4,) * 4, tuple(tuple(-1 if one + other == 3 else None for other in range(4))
                                                       for one in range(4))]
        start = perf_counter()
        for length, some in ((12, twelves), (40, fours)):
            for rows in some:
                numbers = left_numbers(Merger(rows), length)
                self.assertEqual(sum(numbers), len(rows) ** length)
                self.assertGreater(numbers[-1], 0)
                top, bottom = mean_left(Merger(rows), length)
                self.assertEqual(top * sum(numbers), bottom * sum(left * many for left, many in enumerate(numbers)))
                self.raises(Refused, 41, left_numbers, Merger(rows), 41)
        self.assertLess(perf_counter() - start, 4)


class How(unittest.TestCase):
    """Point 42, F, H and P by looking at all queues behind each command."""

    def told(self, rows, under, length):
        """(changes, stands, stays) of all queues of a length behind a command, or the floor."""
        changes, stands, stays = {}, {}, 0
        for queue in product(range(len(rows)), repeat=length):
            pile = [] if under is None else [under]
            floor = len(pile)
            for at, command in enumerate(queue):
                # What came to stand right behind with this command, if anything did.
                changed, stood = self.put(rows, pile, floor, command)
                if changed is not None:
                    if at == length - 1:
                        changes[changed] = changes.get(changed, 0) + 1
                    break
            else:
                if stood is not None:
                    stands[stood] = stands.get(stood, 0) + 1
                stays += len(pile) == floor
        return changes, stands, stays

    def put(self, rows, pile, floor, command):
        """(what the lowest one becomes, what comes to stand right behind it), None for neither."""
        pile.append(command)
        while len(pile) > 1 and rows[pile[-2]][pile[-1]] is not None:
            end = rows[pile[-2]][pile[-1]]
            del pile[-2:]
            if len(pile) < floor:
                return end, None
            if end == -1:
                return None, None
            pile.append(end)
        return None, pile[-1] if len(pile) == floor + 1 else None

    def test_first_changes_and_what_stands_behind(self):
        drawn = Drawn(422)
        for rows in [SUMS, TURNS, CELL, LAST] + small_ones(300) + drawn_ones(421, 16):
            length = min(4, length_for(rows))
            piles = Piles(rows, length)
            for many in range(1, length + 1):
                under = drawn.below(len(rows))
                for top, command in ((under, under), (len(rows), None)):
                    changes, stands, stays = self.told(rows, command, many)
                    got = {end: ways for end, ways in piles.changes[top][many].items() if ways}
                    self.assertEqual(got, changes)
                    self.assertEqual({end: ways for end, ways in piles.stands[top][many].items() if ways}, stands)
                    self.assertEqual(piles.lefts[top][many][0], stays)


if __name__ == "__main__":
    unittest.main()
