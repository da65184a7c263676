"""Point 24: hand-overs."""

import unittest

from foursfold.errors import BadQueue, NoCommand, Refused
from foursfold.handing import hand_overs, handed_over, pair_overs
from foursfold.mergers import Merger

from evens import drawn_evens, named_evens, nine
from plainly import HUGE
from samples import CELL, HANDED, SUMS, drawn_ones, named_ones, small_ones
from slowly import folded_all, folded_to, handed, made_pairs, over_pairs, overs
from wrong import ErrorChecks, any_values, is_below, is_list, no_lists, queue_fault


def samples():
    return small_ones(20) + named_ones() + drawn_ones(241, 60) + named_evens() + drawn_evens(242, 60)


class Pairs(ErrorChecks, unittest.TestCase):
    def test_all_pairs(self):
        made = 0
        for rows in samples():
            merger = Merger(rows)
            for one in range(len(rows)):
                for other in range(len(rows)):
                    if rows[one][other] is None:
                        pairs = pair_overs(merger, one, other)
                        self.assertEqual(pairs, tuple(made_pairs(rows, one, other)))
                        self.assertTrue(no_lists(pairs))
                        self.assertNotIn((one, other), pairs)
                        made += len(pairs)
                    else:
                        self.refuses_pair(merger, one, other)
        self.assertGreater(made, 500)

    def refuses_pair(self, merger, one, other):
        with self.assertRaises(Refused) as caught:
            pair_overs(merger, one, other)
        self.assertEqual(caught.exception.at, (one, other))
        self.assertIs(type(caught.exception.at), tuple)

    def test_both_ways(self):
        for rows in samples():
            merger = Merger(rows)
            for one, other in folded_all(rows, 2):
                for pair in pair_overs(merger, one, other):
                    self.assertIsNone(rows[pair[0]][pair[1]])
                    self.assertIn((one, other), pair_overs(merger, *pair))

    def test_what_goes_is_not_handed_over(self):
        # 0 and 1 go: there is no command b that could be taken off.
        self.assertEqual(pair_overs(other=0, one=0, merger=Merger(CELL)), ())
        self.assertEqual(hand_overs(Merger(CELL), (0, 0, 0)), ())

    def test_no_commands(self):
        merger = Merger(HANDED)
        for value in any_values() + [5]:
            if is_below(value, 5):
                continue
            self.raises(NoCommand, value, pair_overs, merger, value, value)
            self.raises(NoCommand, value, pair_overs, merger, 0, value)
        # Ahead of the refusal of two that merge.
        self.raises(NoCommand, 5, pair_overs, merger, 0, 5)


class Queues(ErrorChecks, unittest.TestCase):
    def test_hand_overs(self):
        for rows in samples():
            merger, pairs = Merger(rows), over_pairs(rows)
            for queue in folded_to(rows, 3)[:200]:
                found = hand_overs(merger, list(queue))
                self.assertEqual(found, tuple(sorted(overs(pairs, queue))))
                self.assertTrue(no_lists(found))
                for place, pair in found:
                    want = handed(queue, place, pair)
                    self.assertEqual(handed_over(merger, list(queue), place, list(pair)), want)
                    self.assertIs(type(handed_over(merger, queue, place, pair)), tuple)

    def test_short_queues(self):
        merger = Merger(nine())
        for queue in ((), [], (0,), [8]):
            self.assertEqual(hand_overs(merger, queue), ())
            for value in any_values():
                self.raises(Refused, value, handed_over, merger, queue, value, (0, 0))
        self.assertEqual(hand_overs(queue=(0, 1, 8), merger=merger), ((1, (5, 7)),))
        self.assertEqual(handed_over(pair=[5, 7], place=1, queue=[0, 1, 8], merger=merger), (0, 5, 7))
        self.assertEqual(hand_overs(merger, (0, 5, 7)), ((0, (6, 4)), (1, (1, 8))))

    def test_places_refused(self):
        merger = Merger(nine())
        for value in any_values() + [3, 4]:
            if is_below(value, 2):
                continue
            self.raises(Refused, value, handed_over, merger, (0, 5, 7), value, "no pair")

    def test_pairs_refused(self):
        merger = Merger(nine())
        for value in any_values() + [(5, 7, 0), (0, 5), (5, 8), (True, 8), [1, True], (1.0, 8), ("1", 8), [HUGE, 8]]:
            self.raises(Refused, value, handed_over, merger, (0, 5, 7), 1, value)
        # No hand-over leads from a pair to itself.
        self.raises(Refused, (5, 7), handed_over, merger, (0, 5, 7), 1, (5, 7))
        elsewhere = [6, 4]
        self.raises(Refused, elsewhere, handed_over, merger, (0, 5, 7), 1, elsewhere)
        self.assertEqual(handed_over(merger, (0, 5, 7), 1, (1, 8)), (0, 1, 8))
        # True is no command, though Python takes it for 1.
        for wrong in ((True, 4), [True, False], (3, True)):
            self.raises(Refused, wrong, handed_over, Merger(HANDED), (0, 4), 0, wrong)
            self.raises(Refused, wrong, handed_over, Merger(HANDED), (3, 2), 0, wrong)

    def test_bad_queues(self):
        merger = Merger(nine())
        for value in any_values():
            at = queue_fault(value, 9)
            if at is not None:
                self.raises(BadQueue, at, hand_overs, merger, value)
                self.raises(BadQueue, at, handed_over, merger, value, "no place", "no pair")
            elif is_list(value) and len(value) == 2 and list(value) == [0, 3]:
                self.raises(Refused, value, hand_overs, merger, value)
        for queue in ((1, 2), [8, 0, 3], (1, 2, 0, 3)):
            self.raises(Refused, queue, hand_overs, merger, queue)
            self.raises(Refused, queue, handed_over, merger, queue, "no place", "no pair")

    def test_any_merger(self):
        # This one is not even.
        self.assertEqual(hand_overs(Merger(SUMS), (1, 1)), ((0, (0, 2)), (0, (2, 0))))
        self.assertEqual(pair_overs(Merger(SUMS), 0, 2), ((1, 1), (2, 0)))

    def test_long_queues(self):
        merger = Merger(nine())
        queue = (0, 1, 8) * 3333
        self.assertEqual(hand_overs(merger, queue), tuple((place, (5, 7)) for place in range(1, 9999, 3)))
        self.assertEqual(handed_over(merger, queue, 9997, (5, 7)), queue[:9996] + (0, 5, 7))


if __name__ == "__main__":
    unittest.main()
