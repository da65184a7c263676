"""Points 31 and 32: the own house."""

import unittest

from foursfold.classes import is_alike
from foursfold.errors import BadHouse, Refused, TooGreat, Uneven
from foursfold.houses import house_map, house_state, is_house, merges_there
from foursfold.mergers import Merger
from foursfold.ownhouse import folded_number, own_house, own_view, ring_holds, ring_paper

from evens import ENDED, FREE, STEPS, drawn_evens, named_evens, small_evens, upwards
from plainly import HUGE, Drawn, folded_of, nested, plain_of
from samples import CELL, LAST, SUMS, TURNS, drawn_ones, named_ones, small_ones
from slowly import class_of, folded_all, over_pairs, queues_to
from test_houses import drawn_tables
from wrong import ErrorChecks, any_values, is_below, is_list, no_lists

FOUR = (0, 0, 1, 0)

def any_samples():
    return small_ones(20) + named_ones() + drawn_ones(311, 120) + named_evens() + drawn_evens(312, 60)


def even_samples():
    return small_evens(6) + named_evens() + drawn_evens(313, 120)


def has_ring(rows):
    """Whether commands that do not merge can go on for ever."""
    ends = set(range(len(rows)))
    for _ in rows:
        ends = {other for one in ends for other in range(len(rows)) if rows[one][other] is None}
    return bool(ends)


def all_folded(rows):
    """All folded queues where there is no ring, the shortest first."""
    return [queue for length in range(len(rows) + 1) for queue in folded_all(rows, length)]


def is_ring(rows, commands):
    turned = tuple(commands[1:]) + tuple(commands[:1])
    return len(commands) > 0 and all(rows[one][other] is None for one, other in zip(commands, turned))


class Rings(unittest.TestCase):
    def test_papers(self):
        rings = 0
        for rows in any_samples():
            merger = Merger(rows)
            word, commands = ring_paper(merger)
            self.assertIs(type(commands), tuple)
            self.assertIs(ring_holds(merger, (word, commands)), True)
            self.assertIs(ring_holds(merger, [word, list(commands)]), True)
            if has_ring(rows):
                rings += 1
                self.assertEqual(word, "ring")
                self.assertTrue(is_ring(rows, commands))
                self.assertIsNone(folded_number(merger))
            else:
                folded = all_folded(rows)
                longest = [queue for queue in folded if len(queue) == len(folded[-1])]
                self.assertEqual((word, commands), ("longest", min(longest)))
                self.assertEqual(folded_number(merger), len(folded))
                for queue in longest[:20]:
                    self.assertIs(ring_holds(merger, ("longest", queue)), True)
        self.assertTrue(100 < rings < len(any_samples()) - 30, (rings, len(any_samples())))

    def test_all_short_values(self):
        for rows in small_ones(60) + named_evens()[:4]:
            merger, ring = Merger(rows), has_ring(rows)
            folded = [()] if ring else all_folded(rows)
            for commands in queues_to(len(rows), 3):
                self.assertIs(ring_holds(merger, ("ring", commands)), is_ring(rows, commands))
                longest = not ring and commands in folded and len(commands) == len(folded[-1])
                self.assertIs(ring_holds(merger, ["longest", list(commands)]), longest)

    def test_long_rings(self):
        self.assertIs(ring_holds(Merger(FREE), ("ring", (0, 1, 2) * 1300)), True)
        self.assertIs(ring_holds(Merger(CELL), ("ring", (0,) * 3999 + (1,))), False)
        self.assertIs(ring_holds(merger=Merger(CELL), value=("ring", [1] * 4000)), True)

    def test_any_values(self):
        for rows in (CELL, LAST, STEPS, SUMS):
            merger = Merger(rows)
            for value in any_values() + [nested(40)]:
                self.assertIs(ring_holds(merger, value), False)
                self.assertIs(ring_holds(merger, (value, (0, 1, 1))), False)
                self.assertIs(ring_holds(merger, ("ring", (0,), value)), False)
                for word in ("ring", "longest"):
                    self.assertIs(type(ring_holds(merger, (word, value))), bool)
                    if not is_list(value) or not all(is_below(command, len(rows)) for command in value):
                        self.assertIs(ring_holds(merger, (word, value)), False)
        self.assertIs(ring_holds(Merger(CELL), ("ring", (0, True))), False)
        self.assertIs(ring_holds(Merger(CELL), ("ring", (0, HUGE))), False)
        self.assertIs(ring_holds(Merger(LAST), ("longest", (True,))), False)

    def test_mergers_of_twelve(self):
        merger = Merger(upwards(12))
        self.assertEqual(ring_paper(merger), ("longest", tuple(range(12))))
        self.assertEqual(folded_number(merger=merger), 2 ** 12)
        self.assertEqual(ring_paper(merger=Merger(((None,) * 12,) * 12))[0], "ring")


def classes_told(rows):
    """The classes of a merger without a ring, each as its queues, in order."""
    pairs, found = over_pairs(rows), []
    for queue in all_folded(rows):
        told = class_of(pairs, queue)
        if told not in found:
            found.append(told)
    return found


class OwnHouse(ErrorChecks, unittest.TestCase):
    def test_samples(self):
        joined = 0
        for rows in even_samples():
            merger, found = Merger(rows), own_house(Merger(rows))
            if has_ring(rows):
                self.assertIsNone(found)
                continue
            classes = classes_told(rows)
            joined += any(len(told) > 1 for told in classes)
            tables, queues = found
            self.assertTrue(no_lists(found))
            self.assertEqual(queues, tuple(told[0] for told in classes))
            for command in range(len(rows)):
                want = [
                    next(state for state, told in enumerate(classes) if plain_of(rows, queue + (command,))[0] in told)
                    for queue in queues
                ]
                self.assertEqual(tables[command], tuple(want))
            self.check_what_holds(merger, tables, queues)
        self.assertGreaterEqual(joined, len(ENDED))

    def check_what_holds(self, merger, tables, queues):
        if len(queues) > 60:
            return
        self.assertTrue(is_house(merger, tables))
        self.assertEqual(len(set(tables)), len(tables))
        self.assertNotIn(tuple(range(len(queues))), tables)
        self.assertEqual(merges_there(merger, tables), ())
        drawn = Drawn(len(queues))
        for _ in range(12):
            one, other = drawn.queue(merger.commands, drawn.below(6)), drawn.queue(merger.commands, drawn.below(6))
            ends = house_state(merger, tables, 0, one), house_state(merger, tables, 0, other)
            same = house_map(merger, tables, one) == house_map(merger, tables, other)
            self.assertEqual((is_alike(merger, one, other),) * 2, (ends[0] == ends[1], same))
            # Folded queues are the shortest of all that do the same.
            self.assertLessEqual(len(queues[ends[0]]), len(one))
            self.assertEqual(len(queues[ends[0]]), len(folded_of(merger.rows, one)[0]))

    def test_most(self):
        for rows in (STEPS, upwards(4), LAST) + ENDED:
            merger = Merger(rows)
            want = own_house(merger)
            states = len(want[1])
            for most in range(1, states + 2):
                if most < states:
                    self.raises(TooGreat, most, own_house, merger, most=most)
                    self.raises(TooGreat, most, own_view, merger, ((0,),) * len(rows), 0, most=most)
                else:
                    self.assertEqual(own_house(merger=merger, most=most), want)
        with self.assertRaises(TypeError):
            own_house(Merger(STEPS), 100)
        # If there is a ring, no class is counted.
        self.assertIsNone(own_house(Merger(CELL), most=1))
        self.assertIsNone(own_view(Merger(CELL), ((0, 1), (0, 1)), 0, most=1))

    def test_five_hundred_folded_queues(self):
        merger = Merger(upwards(9))
        tables, queues = own_house(merger)
        self.assertEqual((len(tables), len(queues)), (9, 512))
        self.assertEqual(own_view(merger, ((0,),) * 9, 0), (0,) * 512)
        self.assertEqual(len(own_house(Merger(upwards(12)))[1]), 4096)

    def test_uneven(self):
        self.raises(Uneven, FOUR, own_house, Merger(SUMS), most=1)


class OwnView(ErrorChecks, unittest.TestCase):
    def test_samples(self):
        drawn = Drawn(315)
        seen = 0
        for rows in even_samples():
            merger = Merger(rows)
            found = own_house(merger)
            for tables in house_tables(rows, found, drawn):
                if not is_house(merger, tables):
                    self.raises(Refused, tables, own_view, merger, tables, "no state")
                    continue
                seen += 1
                for state in range(min(4, len(tables[0]))):
                    view = own_view(merger, list(map(list, tables)), state)
                    if found is None:
                        self.assertIsNone(view)
                        continue
                    self.assertEqual(view, tuple(house_state(merger, tables, state, queue) for queue in found[1]))
                    # A command leads both likewise.
                    for command, table in enumerate(found[0]):
                        for own, behind in enumerate(table):
                            self.assertEqual(view[behind], tables[command][view[own]])
        self.assertGreater(seen, 300)

    def test_errors(self):
        good = ((0, 1), (0, 1))
        for value in any_values():
            for merger in (Merger(STEPS), Merger(CELL)):
                self.raises(BadHouse, 0, own_view, merger, ("", value), value)
                if not is_list(value) or len(value) != 2:
                    self.raises(BadHouse, -1, own_view, merger, value, value)
                if not is_below(value, 2):
                    self.raises(Refused, value, own_view, merger, good, value, most=1)
                wrong = [(1, 0), (0, 0)]
                self.raises(Refused, wrong, own_view, merger, wrong, value, most=1)
            self.raises(Uneven, FOUR, own_view, Merger(SUMS), value, value)
        self.assertEqual(own_view(state=1, tables=good, merger=Merger(STEPS)), (1, 1, 1, 1))
        self.assertEqual(own_view(Merger(LAST), [(0, 0), [1, 1]], 1), (1, 0, 1))
        self.assertEqual(own_house(Merger(TURNS))[1], ((), (0,), (1,), (2,), (2, 0), (2, 1)))


def house_tables(rows, found, drawn):
    """Tables for a merger, houses and others."""
    tables = [((0,),) * len(rows), ((0, 1),) * len(rows), ((0, 0),) * len(rows)]
    tables.append(drawn_tables(drawn, len(rows), 3))
    if found is not None and len(found[1]) <= 60:
        tables.append(found[0])
    return tables


if __name__ == "__main__":
    unittest.main()
