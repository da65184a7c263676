"""Point 29: what is kept."""

import unittest
from fractions import Fraction
from itertools import product
from math import gcd

from foursfold.courts import need_even
from foursfold.errors import BadQueue, Refused, Uneven
from foursfold.kept import bag_kept, first_kept, kept_basis, kept_group, last_kept, same_kept, weights_kept
from foursfold.mergers import Merger, beside_mergers

from evens import ROUND_2, ROUND_3, amalgam, drawn_evens, named_evens, nine, small_evens
from plainly import HUGE, Drawn, folded_of
from samples import CELL, SUMS, TURNS
from slowly import class_of, folded_to, is_end, over_pairs
from wrong import ErrorChecks, any_values, is_list, no_lists, queue_fault


def beside(one, other):
    return beside_mergers(Merger(one), Merger(other)).rows


def samples():
    joined = [beside(ROUND_2, ROUND_2), beside(ROUND_2, ROUND_3), beside(ROUND_2, CELL)]
    return small_evens(40) + named_evens() + joined + drawn_evens(291, 120)


def threes(rows):
    """The threes of point 29, with the two queues that each of them has."""
    for a, b, c in product(range(len(rows)), repeat=3):
        ab, bc = rows[a][b], rows[b][c]
        if is_end(ab) and is_end(bc) and rows[ab][c] is None:
            yield (a, b, c), (ab, c), (a, bc)


def least_unlike(rows, told):
    for three, ahead, behind in threes(rows):
        if told(ahead) != told(behind):
            return three
    return None


def weigher(weights):
    return lambda queue: sum(weights[command] for command in queue)


def changes(rows):
    """By three, by command, how many more the first queue has than the second."""
    return {
        tuple(ahead.count(command) - behind.count(command) for command in range(len(rows)))
        for _, ahead, behind in threes(rows)
    }


def rank_of(rows):
    left, rank = [[Fraction(number) for number in row] for row in rows], 0
    for column in range(len(left[0]) if left else 0):
        at = next((at for at in range(rank, len(left)) if left[at][column]), None)
        if at is None:
            continue
        left[rank], left[at] = left[at], left[rank]
        for other in range(rank + 1, len(left)):
            times = left[other][column] / left[rank][column]
            left[other] = [one - times * two for one, two in zip(left[other], left[rank])]
        rank += 1
    return rank


def kept_round(rows, size):
    """All weights in a circle of a size whose sums are kept."""
    against = sorted(changes(rows))
    return [
        weights for weights in product(range(size), repeat=len(rows))
        if all(sum(map(int.__mul__, weights, row)) % size == 0 for row in against)
    ]


KINDS = ((first_kept, lambda queue: queue[0]), (last_kept, lambda queue: queue[-1]), (bag_kept, sorted))


class Threes(ErrorChecks, unittest.TestCase):
    def test_the_least_three(self):
        seen = {}
        for rows in samples():
            for function, told in KINDS:
                three = function(Merger(rows))
                self.assertEqual(three, least_unlike(rows, told))
                seen.setdefault(function, []).append(three is None)
        for function, nones in seen.items():
            self.assertTrue(10 < sum(nones) < len(nones) - 10, function)
        self.assertEqual(first_kept(merger=Merger(nine())), (0, 3, 4))
        self.assertEqual(last_kept(merger=Merger(nine())), (0, 3, 4))
        self.assertEqual(bag_kept(merger=Merger(nine())), (0, 3, 4))

    def test_threes_decide(self):
        drawn = Drawn(292)
        for rows in samples():
            for function, told in KINDS:
                three = function(Merger(rows))
                if three is None:
                    for length in (3, 4, 5, 6):
                        queue = drawn.queue(len(rows), length)
                        ends = [told(end) for end in folded_of(rows, queue) if end]
                        self.assertTrue(all(end == ends[0] for end in ends))
                else:
                    ahead, behind = map(told, folded_of(rows, three))
                    self.assertNotEqual(ahead, behind)

    def test_weights(self):
        drawn = Drawn(293)
        kept = 0
        for rows in samples():
            merger = Merger(rows)
            basis = kept_basis(merger)
            for kind in range(4):
                weights = [drawn.below(5) - 2 for _ in rows]
                if kind == 0:
                    weights = [sum(drawn.below(3) * number for number in column) for column in zip(*basis)]
                if kind == 1:
                    times = [drawn.below(7) - 3 for _ in basis]
                    weights = [sum(map(int.__mul__, times, column)) for column in zip(*basis)]
                    self.assertIsNone(weights_kept(merger, weights))
                three = weights_kept(merger, weights)
                self.assertEqual(three, least_unlike(rows, weigher(weights)))
                self.assertEqual(weights_kept(merger, tuple(weights)), three)
                queue = drawn.queue(len(rows), 6)
                if three is None:
                    kept += 1
                    self.assertEqual(len(set(map(weigher(weights), folded_of(rows, queue)))), 1)
                else:
                    self.assertEqual(len(set(map(weigher(weights), folded_of(rows, three)))), 2)
            self.assertIsNone(weights_kept(merger, [HUGE] * len(rows)))
        self.assertGreater(kept, 300)

    def test_weights_refused(self):
        merger = Merger(TURNS)
        for value in any_values() + [[0, 1, True], (0, 0, None), [0, 0, 0, 0], (0, 0), [0, 1.0, 0], ["0", 0, 0]]:
            if is_list(value) and len(value) == 3 and all(type(weight) is int for weight in value):
                self.assertIsNone(weights_kept(weights=value, merger=merger))
            else:
                self.raises(Refused, value, weights_kept, merger, value)
        self.assertIsNone(weights_kept(merger, [HUGE, -HUGE, 0]))

    def test_uneven(self):
        for function in (first_kept, last_kept, bag_kept, kept_basis, kept_group):
            self.raises(Uneven, (0, 0, 1, 0), function, Merger(SUMS))
        for value in any_values():
            self.raises(Uneven, (0, 0, 1, 0), weights_kept, Merger(SUMS), value)


class Basis(unittest.TestCase):
    def test_form(self):
        for rows in samples():
            basis = kept_basis(Merger(rows))
            self.assertTrue(no_lists(basis) and type(basis) is tuple)
            before = -1
            for row in basis:
                self.assertEqual(len(row), len(rows))
                self.assertTrue(all(type(number) is int for number in row))
                first = next(at for at, number in enumerate(row) if number)
                self.assertGreater(first, before)
                self.assertGreater(row[first], 0)
                self.assertEqual(gcd(*row), 1)
                self.assertTrue(all(other is row or other[first] == 0 for other in basis))
                before = first

    def test_all_kept_weights_are_sums(self):
        for rows in samples():
            merger = Merger(rows)
            basis = kept_basis(merger)
            for row in basis:
                self.assertIsNone(weights_kept(merger, row))
            self.assertEqual(len(basis) + rank_of(sorted(changes(rows))), len(rows))

    def test_known_ones(self):
        self.assertEqual(kept_basis(merger=Merger(TURNS)), ((1, 0, 0), (0, 1, 0), (0, 0, 1)))
        self.assertEqual(kept_basis(Merger(ROUND_2)), ((1, 0, 0), (0, 1, 1)))
        self.assertEqual(kept_basis(Merger(amalgam(3, 2, 2)))[0], (1, 0, 1, 0, 1, 0, 0, 0))


class Group(ErrorChecks, unittest.TestCase):
    def test_circles(self):
        seen = set()
        for rows in samples():
            rank, divisors = kept_group(Merger(rows))
            seen.add(divisors)
            self.assertIs(type(divisors), tuple)
            self.assertEqual(rank, len(kept_basis(Merger(rows))))
            self.assertTrue(all(type(size) is int and size > 1 for size in divisors))
            self.assertTrue(all(other % size == 0 for size, other in zip(divisors, divisors[1:])))
            for size in range(2, 13):
                if size ** len(rows) > 7000:
                    break
                want = size ** rank
                for divisor in divisors:
                    want *= gcd(divisor, size)
                self.assertEqual(len(kept_round(rows, size)), want)
        self.assertTrue({(), (2,), (3,), (2, 2), (6,)} <= seen)

    def test_known_ones(self):
        self.assertEqual(kept_group(merger=Merger(TURNS)), (3, ()))
        self.assertEqual(kept_group(Merger(ROUND_2)), (2, (2,)))
        self.assertEqual(kept_group(Merger(ROUND_3)), (3, (3,)))
        self.assertEqual(kept_group(Merger(beside(ROUND_2, ROUND_2))), (4, (2, 2)))
        self.assertEqual(kept_group(Merger(beside(ROUND_2, ROUND_3))), (5, (6,)))
        self.assertEqual(kept_group(Merger(amalgam(4, 2, 2))), (5, (4,)))


class Same(ErrorChecks, unittest.TestCase):
    def test_against_sums(self):
        drawn = Drawn(294)
        told = []
        for rows in samples():
            merger = Merger(rows)
            divisors = kept_group(merger)[1]
            size = divisors[-1] if divisors else 2
            if size ** len(rows) > 20000:
                continue
            sums = kept_round(rows, size)[:300]
            basis = kept_basis(merger)
            queues = folded_to(rows, 3)
            for at in range(40):
                one = drawn.pick(queues)
                other = tuple(sorted(one)) if at % 3 == 0 else drawn.pick(queues)
                if other not in queues:
                    continue
                want = all(weigher(row)(one) == weigher(row)(other) for row in basis) and all(
                    (weigher(weights)(one) - weigher(weights)(other)) % size == 0 for weights in sums
                )
                told.append(want)
                self.assertIs(same_kept(merger, list(one), list(other)), want)
        self.assertTrue(100 < sum(told) < len(told) - 100)

    def test_circles_part_what_weights_do_not(self):
        merger = Merger(ROUND_2)
        # The weights of 1 and 2 are alike: once they may be parted, twice not.
        self.assertIs(same_kept(merger, (1, 1), (2, 2)), True)
        self.assertIs(same_kept(other=(1,), one=(2,), merger=merger), False)
        self.assertIs(same_kept(merger, (0, 0, 0), (0, 0)), False)
        self.assertIs(same_kept(merger, (), []), True)

    def test_one_class_has_the_same(self):
        drawn = Drawn(295)
        for rows in samples():
            pairs = over_pairs(rows)
            queue = drawn.pick(folded_to(rows, 4))
            for other in class_of(pairs, queue):
                self.assertIs(same_kept(Merger(rows), queue, other), True)

    def test_errors(self):
        merger, uneven = Merger(nine()), Merger(SUMS)
        for value in any_values():
            at = queue_fault(value, 9)
            if at is not None:
                self.raises(BadQueue, at, same_kept, merger, value, "no queue")
                self.raises(BadQueue, at, same_kept, merger, (0,), value)
                self.raises(BadQueue, queue_fault(value, 3), same_kept, uneven, (2,), value)
        wrong = [1, 2]
        self.raises(Refused, wrong, same_kept, merger, wrong, "no queue")
        self.raises(Refused, wrong, same_kept, merger, (), wrong)
        folds = (0, 0)
        self.raises(Refused, folds, same_kept, uneven, folds, "no queue")
        self.raises(Refused, folds, same_kept, uneven, (), folds)
        self.raises(Uneven, (0, 0, 1, 0), same_kept, uneven, (), ())

    def test_limits(self):
        rows = tuple(row + (None,) for row in amalgam(4, 2, 2)) + ((None,) * 12,)
        merger = need_even(Merger(rows))
        self.assertEqual(kept_group(merger), (6, (4,)))
        self.assertEqual(len(kept_basis(merger)), 6)
        self.assertIs(same_kept(merger, (11,) * 10000, (11,) * 9999 + (0,)), False)
        self.assertIs(same_kept(merger, (11, 0) * 5000, (0, 11) * 5000), True)


if __name__ == "__main__":
    unittest.main()
