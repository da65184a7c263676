"""Points 5, 6 and 7: mergers, queues, mergers of others."""

import unittest
from itertools import permutations, product

from foursfold.errors import BadMerger, BadQueue, NoCommand, Refused, TooGreat, Unsound
from foursfold.mergers import (
    Merger, beside_mergers, check_queue, is_folded, mergeable_places, merged, mirror_merger,
    named_merger, part_merger, three_ends,
)

from plainly import HUGE, Drawn, all_mergers, drawn_machine, drawn_rows, is_sound, left_of, machine_rows
from plainly import nested, unsound_three
from wrong import ErrorChecks, any_values, is_below, is_list, queue_fault

TURNS = ((1, -1, 2), (-1, 0, 2), (None, None, 2))
SUMS = ((1, 2, None), (2, None, None), (None, None, None))


def merger_fault(value):
    """What BadMerger is to carry, None for rows."""
    if not is_list(value) or not 1 <= len(value) <= 12:
        return -1
    for at, row in enumerate(value):
        if not is_list(row) or len(row) != len(value):
            return at
        if not all(end is None or (type(end) is int and -1 <= end < len(value)) for end in row):
            return at
    return None


def drawn_set(seed, many):
    drawn = Drawn(seed)
    for at in range(many):
        commands = 1 + drawn.below(7)
        if at % 4 == 3:
            yield machine_rows(drawn_machine(drawn, 1 + drawn.below(4), 3 + drawn.below(3)))
        else:
            yield drawn_rows(drawn, commands, commands * commands * (1 + at % 3), 1 + drawn.below(6))


class Mergers(ErrorChecks, unittest.TestCase):
    def test_attributes(self):
        merger = Merger([list(row) for row in TURNS])
        self.assertEqual(merger.commands, 3)
        self.assertEqual(merger.rows, TURNS)
        self.assertIs(type(merger.rows), tuple)
        self.assertTrue(all(type(row) is tuple for row in merger.rows))
        self.assertEqual(Merger(rows=TURNS).rows, TURNS)

    def test_sizes(self):
        for commands in range(1, 13):
            rows = [(None,) * commands] * commands
            self.assertEqual(Merger(rows).commands, commands)
            last = Merger([tuple(range(commands))] * commands)
            self.assertEqual(merged(last, 0, commands - 1), commands - 1)
        self.raises(BadMerger, -1, Merger, [(None,) * 13] * 13)
        self.raises(BadMerger, -1, Merger, [])
        self.raises(BadMerger, -1, Merger, ())

    def test_rows_that_are_none(self):
        for value in any_values():
            if merger_fault(value) is not None:
                self.raises(BadMerger, merger_fault(value), Merger, value)
            rows = [value, [None, None]]
            if merger_fault(rows) is not None:
                self.raises(BadMerger, 0, Merger, rows)

    def test_the_first_row_that_is_none_is_told(self):
        good = (None, None, None)
        for bad in ((None, None), (None,) * 4, (None, None, 3), (None, None, -2), (True, None, None), "0 1", None, 3,
                    (None, HUGE, 0), (None, [0], 0), (None, "0", 0), {0: 1}, (0, 0, nested(38))):
            self.raises(BadMerger, 0, Merger, (bad, good, bad))
            self.raises(BadMerger, 1, Merger, [good, bad, bad])
            self.raises(BadMerger, 2, Merger, [good, list(good), bad])

    def test_rows_go_ahead_of_soundness(self):
        self.raises(Unsound, (0, 0, 0), Merger, [(1, 0), (None, None)])
        self.raises(BadMerger, 1, Merger, [(1, 0), (None, 2)])

    def test_unsound_threes(self):
        found = 0
        ends = (None, -1, 0, 1)
        for cells in product(ends, repeat=4):
            rows = (cells[:2], cells[2:])
            three = unsound_three(rows)
            if three is None:
                self.assertEqual(Merger(rows).rows, rows)
                found += 1
            else:
                self.raises(Unsound, three, Merger, rows)
        self.assertEqual(found, len(all_mergers(2)))

    def test_unsound_threes_of_more_commands(self):
        drawn = Drawn(5)
        unsound = 0
        for rows in drawn_set(6, 150):
            cells = [list(row) for row in rows]
            one, other = drawn.below(len(rows)), drawn.below(len(rows))
            cells[one][other] = drawn.below(len(rows) + 1) - 1
            three = unsound_three(cells)
            if three is None:
                Merger(cells)
            else:
                unsound += 1
                self.raises(Unsound, three, Merger, cells)
        self.assertGreater(unsound, 30)

    def test_going_and_soundness(self):
        # 0 1 go, and 1 2 merge to 3: so 0 3 have to merge to 2.
        none = None
        self.raises(Unsound, (0, 1, 2), Merger, [(none, -1, none, none), (none, none, 3, none)] + [(none,) * 4] * 2)
        Merger([(none, -1, none, 2), (none, none, 3, none)] + [(none,) * 4] * 2)
        # 0 1 go and 1 2 go: 2 is left, or 0 is.
        self.raises(Unsound, (0, 1, 2), Merger, [(none, -1, none), (none, none, -1), (none,) * 3])
        Merger([(none, -1), (-1, none)])

    def test_equality(self):
        self.assertTrue(Merger(TURNS) == Merger([list(row) for row in TURNS]))
        self.assertFalse(Merger(TURNS) != Merger(TURNS))
        self.assertFalse(Merger(TURNS) == Merger(SUMS))
        self.assertTrue(Merger(TURNS) != Merger(SUMS))
        for value in any_values()[:20] + [TURNS, list(TURNS), BadQueue(0), object()]:
            self.assertIs(Merger(TURNS) == value, False)
            self.assertIs(value == Merger(TURNS), False)
        self.assertFalse(Merger([(None,)]) == Merger([(None, None)] * 2))

    def test_later_changes_have_no_effect(self):
        row = [None, None]
        rows = [row, [None, None]]
        merger = Merger(rows)
        row[0] = 1
        rows.append(3)
        self.assertEqual(merger.rows, ((None, None), (None, None)))
        self.assertEqual(rows, [[1, None], [None, None], 3])


class Commands(ErrorChecks, unittest.TestCase):
    def test_merged(self):
        for rows in drawn_set(1, 40):
            merger = Merger(rows)
            for one, other in product(range(len(rows)), repeat=2):
                self.assertEqual(merged(merger, one, other), rows[one][other])
                self.assertEqual(merged(other=other, one=one, merger=merger), rows[one][other])

    def test_no_command(self):
        merger = Merger(TURNS)
        for value in any_values():
            if is_below(value, 3):
                continue
            self.raises(NoCommand, value, merged, merger, value, 0)
            self.raises(NoCommand, value, merged, merger, 0, value)
            self.raises(NoCommand, value, merged, merger, value, "later")
            self.raises(NoCommand, value, three_ends, merger, value, 3, 3)
            self.raises(NoCommand, value, three_ends, merger, 0, value, 3)
            self.raises(NoCommand, value, three_ends, merger, 2, 0, value)
        with self.assertRaises(KeyError):
            merged(merger, 3, 0)

    def test_three_ends(self):
        for rows in all_mergers(2) + list(drawn_set(2, 60)):
            merger = Merger(rows)
            for one, middle, other in product(range(len(rows)), repeat=3):
                ahead, behind = rows[one][middle], rows[middle][other]
                ends = three_ends(merger, one, middle, other)
                if ahead is None or behind is None:
                    self.assertIsNone(ends)
                    continue
                self.assertEqual(ends, (left_of(rows, ahead, other), left_of(rows, one, behind)))
                self.assertEqual(ends[0], ends[1])
                self.assertIs(type(ends), tuple)

    def test_three_ends_that_do_not_merge_or_go(self):
        self.assertEqual(three_ends(Merger(SUMS), 0, 1, 0), (None, None))
        self.assertIsNone(three_ends(Merger(SUMS), 0, 2, 0))
        self.assertEqual(three_ends(Merger(TURNS), 0, 0, 0), (-1, -1))
        self.assertEqual(three_ends(Merger(TURNS), 1, 0, 2), (2, 2))


class Queues(ErrorChecks, unittest.TestCase):
    def test_check_queue(self):
        merger = Merger(TURNS)
        for value in ([], (), [0], (2, 1), [0] * 10000, (2,) * 10000):
            self.assertEqual(check_queue(merger, value), tuple(value))
            self.assertIs(type(check_queue(merger, value)), tuple)
        self.assertEqual(check_queue(value=[1], merger=merger), (1,))

    def test_bad_queues(self):
        for commands in (1, 2, 12):
            merger = Merger([(None,) * commands] * commands)
            for value in any_values():
                at = queue_fault(value, commands)
                for function in (check_queue, mergeable_places, is_folded):
                    if at is None:
                        function(merger, value)
                    else:
                        self.raises(BadQueue, at, function, merger, value)

    def test_the_first_bad_item_is_told(self):
        merger = Merger(TURNS)
        for bad in (3, -1, True, None, "0", (), HUGE, merger):
            self.raises(BadQueue, 0, check_queue, merger, [bad, 0, bad])
            self.raises(BadQueue, 2, check_queue, merger, (0, 1, bad, bad))
        self.raises(BadQueue, -1, check_queue, merger, [0] * 10001)
        self.raises(BadQueue, -1, check_queue, merger, [9] * 10001)
        self.raises(BadQueue, 9999, check_queue, merger, [0] * 9999 + [3])

    def test_places(self):
        drawn = Drawn(3)
        for rows in drawn_set(4, 60):
            merger = Merger(rows)
            for length in range(7):
                queue = drawn.queue(len(rows), length)
                places = tuple(at for at in range(length - 1) if rows[queue[at]][queue[at + 1]] is not None)
                self.assertEqual(mergeable_places(merger, list(queue)), places)
                self.assertIs(type(mergeable_places(merger, queue)), tuple)
                self.assertIs(is_folded(merger, queue), len(places) == 0)

    def test_short_and_long_queues(self):
        merger = Merger(TURNS)
        self.assertEqual(mergeable_places(merger, ()), ())
        self.assertEqual(mergeable_places(merger, [1]), ())
        self.assertIs(is_folded(merger, []), True)
        self.assertEqual(mergeable_places(merger, (0,) * 10000), tuple(range(9999)))
        self.assertIs(is_folded(merger, (2, 0) + (0,) * 9998), False)


class Others(ErrorChecks, unittest.TestCase):
    def test_mirror(self):
        for rows in drawn_set(7, 60):
            mirror = mirror_merger(Merger(rows))
            for one, other in product(range(len(rows)), repeat=2):
                self.assertEqual(mirror.rows[one][other], rows[other][one])
            self.assertTrue(is_sound(mirror.rows))
            self.assertEqual(mirror_merger(mirror), Merger(rows))

    def test_named(self):
        drawn = Drawn(8)
        for rows in drawn_set(9, 60):
            names = list(range(len(rows)))
            for at in range(len(names)):
                swap = drawn.below(len(names))
                names[at], names[swap] = names[swap], names[at]
            named = named_merger(Merger(rows), names)
            for one, other in product(range(len(rows)), repeat=2):
                end = rows[one][other]
                self.assertEqual(named.rows[names[one]][names[other]], names[end] if end not in (None, -1) else end)
            self.assertTrue(is_sound(named.rows))

    def test_named_by_name(self):
        self.assertEqual(named_merger(Merger(SUMS), (2, 0, 1)).rows, ((None, None, 1), (None, None, None), (1, None, 0)))
        self.assertEqual(named_merger(merger=Merger(SUMS), names=[0, 1, 2]), Merger(SUMS))

    def test_names_refused(self):
        merger = Merger(TURNS)
        bad = [[0, 1], [0, 1, 1], [0, 1, 3], (0, 1, 2, 2), [0, 1, True], (False, 1, 2), [0, 1, -1], [0, 1, "2"],
               [0, 1, [2]], [0, 1, HUGE], "012", {0: 1, 1: 0, 2: 2}, [0, 1, merger]]
        for value in any_values() + bad:
            self.raises(Refused, value, named_merger, merger, value)
        self.assertEqual(named_merger(Merger([(None,)]), [0]), Merger([(None,)]))
        for names in permutations(range(3)):
            named_merger(merger, names)

    def test_part(self):
        for rows in drawn_set(10, 60):
            merger = Merger(rows)
            for bits in range(1, 2 ** min(len(rows), 5)):
                commands = [at for at in range(len(rows)) if bits >> at & 1]
                part = part_merger(merger, commands)
                for one, other in product(range(len(commands)), repeat=2):
                    end = rows[commands[one]][commands[other]]
                    want = commands.index(end) if end in commands else -1 if end == -1 else None
                    self.assertEqual(part.rows[one][other], want)
                self.assertTrue(is_sound(part.rows))

    def test_parts_refused(self):
        merger = Merger(TURNS)
        good = [[0], (2,), (0, 2), [0, 1, 2]]
        bad = [[1, 0], [0, 0], [0, 3], [2, 1], [0, 1, 2, 3], [0, True], [-1, 0], [0, "1"], "0", [[0]], [0, HUGE]]
        for value in any_values() + bad:
            fits = is_list(value) and len(value) > 0 and all(is_below(command, 3) for command in value)
            if fits and list(value) == sorted(set(value)):
                self.assertEqual(part_merger(merger, value).commands, len(value))
            else:
                self.raises(Refused, value, part_merger, merger, value)
        for value in good:
            self.assertEqual(part_merger(commands=value, merger=merger).commands, len(value))

    def test_beside(self):
        drawn = list(drawn_set(11, 30))
        for one, other in zip(drawn, drawn[1:]):
            many = len(one) + len(other)
            if many > 12:
                self.raises(TooGreat, 12, beside_mergers, Merger(one), Merger(other))
                continue
            both = beside_mergers(Merger(one), Merger(other))
            self.assertEqual(both.commands, many)
            for a, b in product(range(many), repeat=2):
                want = None
                if a < len(one) and b < len(one):
                    want = one[a][b]
                if a >= len(one) and b >= len(one):
                    want = other[a - len(one)][b - len(one)]
                    if want not in (None, -1):
                        want += len(one)
                self.assertEqual(both.rows[a][b], want)
            self.assertTrue(is_sound(both.rows))

    def test_beside_too_many(self):
        six = Merger([(None,) * 6] * 6)
        seven = Merger([(None,) * 7] * 7)
        self.assertEqual(beside_mergers(six, six).commands, 12)
        self.raises(TooGreat, 12, beside_mergers, six, seven)
        self.raises(TooGreat, 12, beside_mergers, one=seven, other=six)


if __name__ == "__main__":
    unittest.main()
