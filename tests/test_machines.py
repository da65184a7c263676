"""Point 9: machines."""

import unittest
from itertools import product

from foursfold.errors import BadHouse, BadQueue
from foursfold.machines import check_machine, done_table, machine_merger
from foursfold.mergers import Merger

from plainly import HUGE, Drawn, all_queues, drawn_machine, is_sound, machine_rows
from wrong import ErrorChecks, any_values, is_below, is_list, queue_fault

TURNS = ((1, 2, 0), (2, 0, 1), (0, 0, 0))


def machine_fault(value):
    """What BadHouse is to carry, None for a machine."""
    if not is_list(value) or not 1 <= len(value) <= 12:
        return -1
    for at, table in enumerate(value):
        if not is_list(table) or not 1 <= len(table) <= 60 or len(table) != len(value[0]):
            return at
        if not all(is_below(state, len(table)) for state in table):
            return at
        if list(table) == list(range(len(table))) or list(table) in [list(early) for early in value[:at]]:
            return at
    return None


def stepped(tables, queue, state):
    for command in queue:
        state = tables[command][state]
    return state


def great_machine():
    """12 tables of 60 states: turns, all unlike."""
    return [[(state + turn + 1) % 60 for state in range(60)] for turn in range(12)]


class Machines(ErrorChecks, unittest.TestCase):
    def test_check_machine(self):
        for tables in (TURNS, [list(table) for table in TURNS], [[1, 0]], ((0, 0), [1, 1])):
            checked = check_machine(tables)
            self.assertEqual(checked, tuple(tuple(table) for table in tables))
            self.assertTrue(all(type(table) is tuple for table in (checked,) + checked))
        self.assertEqual(check_machine(value=TURNS), TURNS)

    def test_what_is_no_machine(self):
        for value in any_values():
            if machine_fault(value) is None:
                self.assertEqual(check_machine(value), tuple(tuple(table) for table in value))
                continue
            self.raises(BadHouse, machine_fault(value), check_machine, value)
            self.raises(BadHouse, machine_fault(value), machine_merger, value)
            self.raises(BadHouse, machine_fault(value), done_table, value, "later")

    def test_the_first_bad_table_is_told(self):
        turn, back, idle = (1, 2, 0), [2, 0, 1], (0, 1, 2)
        bad = [idle, list(idle), (1, 2), (1, 2, 0, 3), (1, 2, 3), (1, 2, -1), (1, 2, False), (True, 2, 0), None, "120",
               3, (1, 2, None), (1, 2, "0"), (1, 2, [0]), (1, 2, HUGE), (), {0: 1}, Merger([(None,)])]
        for value in bad:
            self.raises(BadHouse, 1, check_machine, [turn, value, value])
            self.raises(BadHouse, 2, check_machine, (turn, back, value))
            if machine_fault([value]) is not None:
                self.raises(BadHouse, 0, check_machine, [value, value])
        self.raises(BadHouse, 1, check_machine, [turn, list(turn)])
        self.raises(BadHouse, 2, check_machine, [turn, back, turn, idle])
        self.raises(BadHouse, 1, check_machine, [(1, 0), turn])

    def test_sizes(self):
        self.raises(BadHouse, 0, check_machine, [(0,)])
        self.raises(BadHouse, 0, check_machine, [()])
        self.assertEqual(len(check_machine(great_machine())), 12)
        self.raises(BadHouse, -1, check_machine, great_machine() + [[0] * 60])
        self.raises(BadHouse, 0, check_machine, [[0] * 61])
        self.raises(BadHouse, -1, check_machine, [])

    def test_done_table(self):
        drawn = Drawn(31)
        for _ in range(60):
            tables = drawn_machine(drawn, 1 + drawn.below(4), 3 + drawn.below(4))
            queue = drawn.queue(len(tables), drawn.below(7))
            want = tuple(stepped(tables, queue, state) for state in range(len(tables[0])))
            self.assertEqual(done_table(tables, queue), want)
            self.assertEqual(done_table(queue=list(queue), tables=[list(table) for table in tables]), want)

    def test_done_table_of_short_and_long_queues(self):
        self.assertEqual(done_table(TURNS, ()), (0, 1, 2))
        self.assertEqual(done_table(TURNS, [1]), (2, 0, 1))
        self.assertEqual(done_table(great_machine(), (0,) * 10000)[0], 10000 % 60)

    def test_done_table_of_bad_queues(self):
        for value in any_values():
            if queue_fault(value, 3) is None:
                done_table(TURNS, value)
            else:
                self.raises(BadQueue, queue_fault(value, 3), done_table, TURNS, value)
        self.raises(BadQueue, 1, done_table, TURNS, (2, 3, 4))

    def test_machine_merger(self):
        drawn = Drawn(32)
        for _ in range(100):
            tables = drawn_machine(drawn, 1 + drawn.below(4), 3 + drawn.below(3))
            merger = machine_merger([list(table) for table in tables])
            self.assertIsInstance(merger, Merger)
            self.assertEqual(merger.rows, machine_rows(tables))
            self.assertTrue(is_sound(merger.rows))
            for one, other in product(range(len(tables)), repeat=2):
                end, done = merger.rows[one][other], done_table(tables, (one, other))
                if end is None:
                    self.assertNotIn(done, tables)
                    self.assertNotEqual(done, tuple(range(len(done))))
                else:
                    self.assertEqual(done, done_table(tables, () if end == -1 else (end,)))

    def test_queues_do_the_same_whatever_merges(self):
        drawn = Drawn(33)
        for _ in range(40):
            tables = drawn_machine(drawn, 2 + drawn.below(3), 3)
            queue = drawn.queue(len(tables), 5)
            done = done_table(tables, queue)
            for other in all_queues(machine_merger(tables).rows, queue):
                self.assertEqual(done_table(tables, other), done)

    def test_the_greatest_machine_merges(self):
        merger = machine_merger(great_machine())
        self.assertEqual(merger.rows[0][10], 11)
        self.assertIsNone(merger.rows[0][11])
        back = [[(state + turn) % 60 for state in range(60)] for turn in (1, 59)]
        self.assertEqual(machine_merger(back).rows, ((None, -1), (-1, None)))


if __name__ == "__main__":
    unittest.main()
