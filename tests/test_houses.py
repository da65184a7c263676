"""Point 30: houses."""

import unittest

from foursfold.errors import BadHouse, BadQueue, Refused
from foursfold.houses import house_fault, house_map, house_parting, house_state, is_house, merges_there
from foursfold.mergers import Merger

from evens import drawn_evens, named_evens
from plainly import HUGE, Drawn, all_queues, drawn_machine, machine_rows
from samples import CELL, SUMS, TURNS, drawn_ones, named_ones
from wrong import ErrorChecks, alike, any_values, is_below, is_list, no_lists, queue_fault

TABLES = ((1, 2, 0), (2, 0, 1), (0, 0, 0))


def led(tables, state, queue):
    for command in queue:
        state = tables[command][state]
    return state


def drawn_tables(drawn, commands, states):
    return tuple(tuple(drawn.below(states) for _ in range(states)) for _ in range(commands))


def samples():
    """Rows of mergers, each with tables of which some are houses."""
    drawn = Drawn(301)
    found = []
    for rows in named_ones() + drawn_ones(302, 60) + named_evens() + drawn_evens(303, 30):
        for states in (1, 2, 3):
            found.append((rows, drawn_tables(drawn, len(rows), states)))
        # All commands do the same, which done twice is done.
        found.append((rows, ((0, 0, 2),) * len(rows)))
        found.append((rows, ((0, 1),) * len(rows)))
    for _ in range(60):
        tables = drawn_machine(drawn, 1 + drawn.below(4), 3)
        found.append((machine_rows(tables), tables))
        found.append((drawn_ones(drawn.below(1000), 1)[0], ((0,),) * 2))
    return [(rows, tables) for rows, tables in found if len(rows) == len(tables)]


def slow_fault(rows, tables):
    states = range(len(tables[0]))
    for one in range(len(rows)):
        for other in range(len(rows)):
            end = rows[one][other]
            if end is not None:
                ends = () if end == -1 else (end,)
                for state in states:
                    if led(tables, state, (one, other)) != led(tables, state, ends):
                        return one, other, state
    return None


def slow_merges(rows, tables):
    states, found = range(len(tables[0])), []
    for one in range(len(rows)):
        for other in range(len(rows)):
            if rows[one][other] is None:
                for end in range(-1, len(rows)):
                    ends = () if end == -1 else (end,)
                    if all(led(tables, state, (one, other)) == led(tables, state, ends) for state in states):
                        found.append((one, other, end))
                        break
    return tuple(found)


class Houses(unittest.TestCase):
    def test_faults(self):
        told = []
        for rows, tables in samples():
            fault = house_fault(Merger(rows), list(map(list, tables)))
            self.assertEqual(fault, slow_fault(rows, tables))
            self.assertIs(is_house(Merger(rows), tables), fault is None)
            told.append(fault)
        self.assertTrue(50 < told.count(None) < len(told) - 50)

    def test_a_machine_is_a_house_of_its_merger(self):
        drawn = Drawn(304)
        for _ in range(60):
            tables = drawn_machine(drawn, 1 + drawn.below(5), 3 + drawn.below(3))
            self.assertIsNone(house_fault(tables=tables, merger=Merger(machine_rows(tables))))

    def test_maps(self):
        drawn = Drawn(305)
        for rows, tables in samples():
            merger = Merger(rows)
            one, other = drawn.queue(len(rows), drawn.below(6)), drawn.queue(len(rows), drawn.below(6))
            ends = [tuple(led(tables, state, queue) for state in range(len(tables[0]))) for queue in (one, other)]
            self.assertTrue(alike(house_map(merger, list(tables), list(one)), ends[0]))
            parted = [state for state, pair in enumerate(zip(*ends)) if pair[0] != pair[1]]
            self.assertEqual(house_parting(merger, tables, list(one), other), parted[0] if parted else None)
            for state in range(len(tables[0])):
                self.assertEqual(house_state(merger, tables, state, list(one)), ends[0][state])

    def test_merging_changes_nothing_in_a_house(self):
        drawn = Drawn(306)
        for rows, tables in samples():
            if is_house(Merger(rows), tables):
                queue = drawn.queue(len(rows), 5)
                for other in all_queues(rows, queue):
                    self.assertIsNone(house_parting(Merger(rows), tables, queue, other))

    def test_merges_there(self):
        made = 0
        for rows, tables in samples():
            found = merges_there(Merger(rows), list(map(list, tables)))
            self.assertEqual(found, slow_merges(rows, tables))
            self.assertTrue(no_lists(found))
            made += len(found)
        self.assertGreater(made, 500)
        # Nothing comes ahead of commands that are idle, too.
        self.assertEqual(merges_there(tables=((0,), (0,)), merger=Merger(CELL)), ((0, 0, -1), (1, 1, -1)))
        self.assertEqual(merges_there(Merger(((None,),)), ((1, 1),)), ((0, 0, 0),))
        self.assertEqual(merges_there(Merger(TURNS), TABLES), ())

    def test_known_ones(self):
        merger = Merger(TURNS)
        self.assertEqual(house_map(queue=(2, 0), tables=TABLES, merger=merger), (1, 1, 1))
        self.assertEqual(house_map(merger, TABLES, ()), (0, 1, 2))
        self.assertEqual(house_state(queue=(0, 0), state=2, tables=TABLES, merger=merger), 1)
        self.assertEqual(house_parting(other=(0,), one=(0, 2), tables=TABLES, merger=merger), 0)
        self.assertEqual(house_parting(merger, TABLES, (2,), (0, 0, 2)), None)
        self.assertEqual(house_fault(merger, (TABLES[0], TABLES[1], (0, 0, 1))), (0, 2, 1))

    def test_limits(self):
        turn = tuple(range(1, 60)) + (0,)
        merger = Merger(((None,) * 12,) * 12)
        self.assertEqual(house_map(merger, (turn,) * 12, (0, 11) * 100), tuple((at + 200) % 60 for at in range(60)))
        self.assertEqual(house_state(merger, (turn,) * 12, 59, (3,) * 200), 19)
        self.assertTrue(is_house(merger, (turn,) * 12))
        self.assertEqual(house_parting(merger, (turn,) * 12, (1,) * 200, (2,) * 140), None)


class Wrong(ErrorChecks, unittest.TestCase):
    def calls(self, merger, tables, behind):
        """All functions with tables, each with what comes behind it."""
        return (
            (house_map, (merger, tables, behind)), (house_state, (merger, tables, behind, behind)),
            (house_fault, (merger, tables)), (is_house, (merger, tables)),
            (house_parting, (merger, tables, behind, behind)), (merges_there, (merger, tables)),
        )

    def all_raise(self, at, tables):
        for function, args in self.calls(Merger(CELL), tables, "nothing good"):
            self.raises(BadHouse, at, function, *args)

    def test_bad_houses(self):
        for value in any_values():
            if not (is_list(value) and len(value) == 2):
                self.all_raise(-1, value)
            good = is_list(value) and 0 < len(value) <= 60 and all(is_below(state, len(value)) for state in value)
            if not good:
                self.all_raise(0, (value, value))
                self.all_raise(1, [[0, 1], value])
            elif len(value) != 2:
                self.all_raise(1, [(0, 1), value])

    def test_the_first_bad_table_is_told(self):
        for wrong in ((), (0,), (0, 1, 2), (0, 2), (0, -1), (0, True), (0, None), "01", [0, HUGE], 1):
            self.all_raise(1, ((1, 0), wrong))
            self.all_raise(0, ((2, 0), wrong))
        self.all_raise(0, ((0,) * 61, (0,) * 61))
        self.all_raise(-1, ((0,),) * 3)
        self.assertTrue(is_house(Merger(CELL), ((0,) * 60, (0,) * 60)) is False)
        # Tables that are alike or idle may be.
        self.assertTrue(is_house(Merger(CELL), ((0, 1), (0, 1))))

    def test_states_and_queues(self):
        for value in any_values():
            if not is_below(value, 3):
                self.raises(Refused, value, house_state, Merger(SUMS), TABLES, value, "no queue")
            at = queue_fault(value, 3)
            if at is not None:
                self.raises(BadQueue, at, house_map, Merger(SUMS), TABLES, value)
                self.raises(BadQueue, at, house_state, Merger(SUMS), TABLES, 2, value)
                self.raises(BadQueue, at, house_parting, Merger(SUMS), TABLES, value, "no queue")
                self.raises(BadQueue, at, house_parting, Merger(SUMS), TABLES, (), value)


if __name__ == "__main__":
    unittest.main()
