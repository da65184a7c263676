"""Points 18 to 21: courts."""

import unittest
from itertools import product
from time import perf_counter

from foursfold.classes import class_size
from foursfold.courts import (
    bag_queue, four_kind, four_numbers, hand_triples, is_even, is_single, merger_word, need_even,
    single_three, uneven_four, uneven_fours,
)
from foursfold.errors import BadQueue, Refused, Uneven
from foursfold.mergers import Merger

from evens import drawn_even, drawn_handing
from plainly import Drawn, all_mergers, drawn_machine, drawn_rows, folded_of, is_sound, left_of, machine_rows
from samples import CELL, HANDED, KEPT, LAST, LEFT, MIDDLE, RIGHT, SUMS, SWAPPED, TURNS, drawn_ones, named_ones, small_ones
from samples import sums_to, two_ends, words_rows
from wrong import ErrorChecks, alike, any_values, no_lists, queue_fault

KINDS = ("middle", "left", "right")


def told_kinds(rows, four):
    """The kinds of a queue of four, word for word as point 18 has them."""
    x, y, z, w = four
    xy, yz, zw = rows[x][y], rows[y][z], rows[z][w]

    def all_merge(one, middle, other):
        return left_of(rows, rows[one][middle], other) is not None

    kinds = []
    if None not in (xy, yz, zw) and not all_merge(x, y, z) and not all_merge(y, z, w):
        kinds.append("middle")
    if None not in (yz, zw) and not all_merge(y, z, w) and left_of(rows, x, yz) is not None and xy is None:
        kinds.append("left")
    if None not in (xy, yz) and not all_merge(x, y, z) and left_of(rows, yz, w) is not None and zw is None:
        kinds.append("right")
    return kinds


def is_uneven(rows, queue):
    return len({len(folded) for folded in folded_of(rows, queue)}) > 1


def bags(rows, queue):
    return {tuple(sorted(folded)) for folded in folded_of(rows, queue)}


def queues_of(rows, length):
    return product(range(len(rows)), repeat=length)


def samples():
    return small_ones(12) + named_ones() + drawn_ones(91, 80)


class Fours(ErrorChecks, unittest.TestCase):
    def check_fours(self, rows):
        merger, pairs = Merger(rows), []
        for four in queues_of(rows, 4):
            kinds = told_kinds(rows, four)
            self.assertEqual(len(kinds), 1 if is_uneven(rows, four) else 0)
            self.assertEqual(four_kind(merger, list(four)), kinds[0] if kinds else None)
            if kinds:
                pairs.append((four, kinds[0]))
        self.assertEqual(uneven_fours(merger), tuple(pairs))
        self.assertTrue(no_lists(uneven_fours(merger)))
        self.assertEqual(uneven_four(merger), pairs[0][::-1] if pairs else None)
        numbers = tuple([kind for _, kind in pairs].count(kind) for kind in KINDS)
        self.assertEqual(four_numbers(merger), numbers)
        self.assertIs(is_even(merger), not pairs)
        if pairs:
            self.raises(Uneven, pairs[0][0], need_even, merger)
        else:
            self.assertIs(need_even(merger), merger)

    def test_small_and_named_and_drawn_mergers(self):
        for rows in samples():
            self.check_fours(rows)

    def test_the_least_of_each_kind(self):
        for rows, kind in ((MIDDLE, "middle"), (LEFT, "left"), (RIGHT, "right")):
            self.assertEqual(uneven_four(Merger(rows)), (kind, (0, 1, 2, 3)))
            self.assertEqual(four_kind(queue=(0, 1, 2, 3), merger=Merger(rows)), kind)
            self.assertEqual(four_numbers(merger=Merger(rows)), tuple(int(one == kind) for one in KINDS))

    def test_even_of_four_is_even_of_all(self):
        drawn = Drawn(92)
        for rows in samples():
            uneven = [queue for queue in queues_of(rows, 3) if is_uneven(rows, queue)]
            self.assertEqual(uneven, [])
            if not is_even(Merger(rows)):
                continue
            for length in (5, 6, 7, 9):
                self.assertFalse(is_uneven(rows, drawn.queue(len(rows), length)))
        for rows in small_ones(100):
            if is_even(Merger(rows)):
                self.assertFalse(any(is_uneven(rows, queue) for queue in queues_of(rows, 5)))

    def test_four_kind_refuses(self):
        merger = Merger(TURNS)
        for value in any_values() + [[0, 0, 0, 0], (0, 1, 2), [0, 1, 2, 0, 1]]:
            at = queue_fault(value, 3)
            if at is not None:
                self.raises(BadQueue, at, four_kind, merger, value)
            elif len(value) != 4:
                self.raises(Refused, value, four_kind, merger, value)
            else:
                self.assertIsNone(four_kind(merger, value))
        self.raises(BadQueue, 4, four_kind, merger, [0, 0, 0, 0, 3])
        self.raises(BadQueue, 0, four_kind, merger, [3])
        given = [0, 0, 0]
        with self.assertRaises(Refused) as caught:
            four_kind(merger, given)
        self.assertIs(caught.exception.at, given)

    def test_twelve_commands(self):
        last = [None] * 12
        rows = [list(last) for _ in range(12)]
        rows[11][10] = rows[10][11] = 9
        merger = Merger(rows)
        self.assertEqual(uneven_fours(merger), (((10, 11, 10, 11), "middle"), ((11, 10, 11, 10), "middle")))
        self.assertEqual(bag_queue(merger), (10, 11, 10, 11))
        self.assertIs(is_even(Merger([tuple(range(12))] * 12)), True)
        self.assertIs(is_even(Merger(sums_to(12))), False)


class ToTwelve(ErrorChecks, unittest.TestCase):
    """Mergers of one to twelve commands, and a plain look at all queues of four."""

    def check(self, rows):
        merger = Merger(rows)
        pairs = [(four, told_kinds(rows, four)) for four in queues_of(rows, 4)]
        pairs = tuple((four, kinds[0]) for four, kinds in pairs if kinds)
        self.assertEqual(uneven_fours(merger), pairs)
        self.assertEqual(uneven_four(merger), pairs[0][::-1] if pairs else None)
        numbers = tuple([kind for _, kind in pairs].count(kind) for kind in KINDS)
        self.assertTrue(alike(four_numbers(merger), numbers))
        self.assertIs(is_even(merger), not pairs)
        if pairs:
            self.raises(Uneven, pairs[0][0], need_even, merger)
            self.assertTrue(alike(uneven_four(merger), uneven_fours(merger)[0][::-1]))
        else:
            self.assertIs(need_even(merger), merger)
        return not pairs, {kind for _, kind in pairs}

    def drawn(self, commands, seed):
        drawn = Drawn(seed)
        yield drawn_rows(drawn, commands, commands * commands, 1 + drawn.below(9))
        yield drawn_rows(drawn, commands, 4 + drawn.below(2 * commands), 1 + drawn.below(9))
        yield words_rows(drawn, max(2, commands))
        yield drawn_even(drawn, commands, 5 * commands, 1 + drawn.below(9))
        yield drawn_handing(drawn, commands, 4 * commands)
        yield machine_rows(drawn_machine(drawn, min(commands, 5), 3))
        yield ((None,) * commands,) * commands
        yield tuple(tuple((one + other) % commands for other in range(commands)) for one in range(commands))

    def test_drawn_mergers(self):
        seen, even = set(), {True: 0, False: 0}
        for commands in range(1, 13):
            for rows in self.drawn(commands, 940 + commands):
                verdict, kinds = self.check(rows)
                even[verdict] += 1
                seen |= kinds
        self.assertEqual(seen, set(KINDS))
        self.assertGreater(min(even.values()), 20)

    def test_one_more_merge_makes_it_uneven(self):
        drawn, seen = Drawn(960), 0
        while seen < 25:
            rows = [list(row) for row in drawn_even(drawn, 4 + drawn.below(3), 30, 4)]
            one, other, end = (drawn.below(len(rows)) for _ in range(3))
            rows[one][other] = drawn.pick([None, -1, end, end])
            rows = tuple(map(tuple, rows))
            if is_sound(rows):
                seen += not self.check(rows)[0]


class Swift(unittest.TestCase):
    MERGERS = (
        ([[(one + other) % 12 for other in range(12)] for one in range(12)], (0,)),
        ([[None] * 12] * 12, (0, 1, 2, 3)),
    )

    def seconds(self, rows, called):
        """The best of some tries to call something for 200 mergers made anew."""
        best = 10
        for _ in range(5):
            fresh = [Merger(rows) for _ in range(200)]
            start = perf_counter()
            for merger in fresh:
                called(merger)
            best = min(best, perf_counter() - start)
        return best

    def test_two_hundred_calls(self):
        for rows, queue in self.MERGERS:
            self.assertTrue(is_even(Merger(rows)))
            self.assertLess(self.seconds(rows, is_even), 0.1)
            self.assertLess(self.seconds(rows, need_even), 0.1)
            self.assertLess(self.seconds(rows, uneven_four), 0.1)
            self.assertLess(self.seconds(rows, lambda merger: class_size(merger, queue)), 0.25)
            self.assertLess(self.seconds(rows, lambda merger: Merger(merger.rows)), 0.5)

    def test_both_together(self):
        for rows, _ in self.MERGERS:
            both = self.seconds(rows, lambda merger: is_even(Merger(rows)) and class_size(Merger(rows), (0,)))
            self.assertLess(both, 0.5)

    def test_uneven_ones(self):
        for rows in (sums_to(12), two_ends()):
            self.assertLess(self.seconds(rows, uneven_four), 0.2)


class Threes(unittest.TestCase):
    def test_hand_triples(self):
        for rows in samples():
            want = []
            for a, b, c in queues_of(rows, 3):
                if rows[a][b] is not None and rows[b][c] is not None and left_of(rows, rows[a][b], c) is None:
                    want.append((a, b, c))
                    self.assertEqual(set(folded_of(rows, (a, b, c))), {(rows[a][b], c), (a, rows[b][c])})
            self.assertEqual(hand_triples(merger=Merger(rows)), tuple(want))
            self.assertTrue(no_lists(hand_triples(Merger(rows))))

    def test_single(self):
        drawn = Drawn(93)
        seen = 0
        for rows in samples():
            threes = [queue for queue in queues_of(rows, 3) if len(folded_of(rows, queue)) > 1]
            self.assertEqual(single_three(Merger(rows)), threes[0] if threes else None)
            self.assertIs(is_single(Merger(rows)), not threes)
            if not threes:
                seen += len(hand_triples(Merger(rows))) > 0
                for length in (2, 4, 5, 6, 8):
                    self.assertEqual(len(folded_of(rows, drawn.queue(len(rows), length))), 1)
        self.assertGreater(seen, 20)

    def test_bag_queue(self):
        drawn = Drawn(94)
        seen = {3: 0, 4: 0, None: 0}
        for rows in samples() + all_mergers(3)[3::40] + [SWAPPED]:
            unlike = [queue for length in (3, 4) for queue in queues_of(rows, length) if len(bags(rows, queue)) > 1]
            found = bag_queue(merger=Merger(rows))
            self.assertEqual(found, unlike[0] if unlike else None)
            seen[len(found) if found else None] += 1
            if found is None:
                self.assertTrue(is_even(Merger(rows)))
                for length in (5, 6, 8):
                    self.assertEqual(len(bags(rows, drawn.queue(len(rows), length))), 1)
            else:
                self.assertIs(type(found), tuple)
        self.assertTrue(all(seen.values()))

    def test_unlike_bags_of_four_alone(self):
        self.assertEqual(bag_queue(Merger(SWAPPED)), (0, 1, 0, 1))
        self.assertEqual(hand_triples(Merger(SWAPPED)), ((0, 1, 0), (1, 0, 1)))
        self.assertEqual(bags(SWAPPED, (0, 1, 0)), {(0, 2)})


class Words(unittest.TestCase):
    def test_words(self):
        told = ((SUMS, "uneven"), (SWAPPED, "uneven"), (LAST, "clear"), (CELL, "clear"), (KEPT, "single"), (HANDED, "even"))
        for rows, word in told:
            self.assertEqual(merger_word(merger=Merger(rows)), word)
        self.assertEqual(merger_word(Merger(((0, None), (None, 1)))), "clear")
        self.assertEqual(merger_word(Merger(((None,),))), "clear")

    def test_the_first_word_that_is_so(self):
        seen = set()
        for rows in samples():
            merger = Merger(rows)
            if any(is_uneven(rows, four) for four in queues_of(rows, 4)):
                word = "uneven"
            elif not hand_triples(merger):
                word = "clear"
            elif all(len(folded_of(rows, three)) == 1 for three in queues_of(rows, 3)):
                word = "single"
            elif all(len(bags(rows, queue)) == 1 for length in (3, 4) for queue in queues_of(rows, length)):
                word = "bag"
            else:
                word = "even"
            self.assertEqual(merger_word(merger), word)
            seen.add(word)
        self.assertLessEqual({"uneven", "clear", "single", "even"}, seen)


class Named(unittest.TestCase):
    def test_any_kind_of_sequence_and_name(self):
        merger = Merger([list(row) for row in SUMS])
        self.assertTrue(alike(uneven_four(merger=merger), ("middle", (0, 0, 1, 0))))
        self.assertTrue(alike(four_numbers(merger=merger), (5, 0, 0)))
        self.assertEqual(len(uneven_fours(merger=merger)), 5)
        self.assertIs(is_even(merger=merger), False)
        self.assertIs(is_single(merger=merger), False)
        self.assertTrue(alike(single_three(merger=merger), (0, 0, 1)))
        self.assertTrue(alike(bag_queue(merger=merger), (0, 0, 1)))
        self.assertIsNotNone(need_even(merger=Merger(LAST)))


if __name__ == "__main__":
    unittest.main()
