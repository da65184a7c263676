"""Points 50 and 51: struck commands, and further ones."""

import unittest
from itertools import combinations, product
from time import perf_counter

from foursfold.completing import even_number, evened, greatest_even
from foursfold.courts import is_even
from foursfold.errors import BadHouse, TooGreat
from foursfold.machines import done_table, machine_merger
from foursfold.mergers import Merger, part_merger

from evens import drawn_evens
from plainly import Drawn, drawn_machine, folded_of, machine_rows
from samples import HURRIED, LEFT, MIDDLE, RIGHT, SUMS, SWAPPED, drawn_ones, named_ones, small_ones, sums_to, two_ends
from wrong import ErrorChecks, alike, any_values, no_lists

THREES = [(1, 2, 0), (2, 0, 1), (0, 0, 0)]


def part_rows(rows, commands):
    """The rows of some commands alone."""
    names = {command: at for at, command in enumerate(commands)}
    names[-1] = -1
    return tuple(tuple(names.get(rows[one][other]) for other in commands) for one in commands)


def is_even_plainly(rows):
    """By all queues of four."""
    return all(len({len(one) for one in folded_of(rows, four)}) == 1 for four in product(range(len(rows)), repeat=4))


def even_parts(rows, plainly):
    """All ascending tuples of commands whose own merger is even."""
    return [
        part for size in range(1, len(rows) + 1) for part in combinations(range(len(rows)), size)
        if (is_even_plainly(part_rows(rows, part)) if plainly else is_even(part_merger(Merger(rows), part)))
    ]


class Struck(unittest.TestCase):
    def check(self, rows, plainly):
        parts = even_parts(rows, plainly)
        most = max(map(len, parts))
        self.assertTrue(alike(greatest_even(Merger(rows)), min(part for part in parts if len(part) == most)))
        self.assertTrue(alike(even_number(merger=Merger(rows)), len(parts)))
        for command in range(len(rows)):
            self.assertIn((command,), parts)

    def test_by_all_queues_of_four(self):
        for rows in small_ones(20) + [rows for rows in drawn_ones(501, 60) if len(rows) < 5] + [SUMS, SWAPPED]:
            self.check(rows, True)

    def test_all_parts(self):
        for rows in named_ones() + drawn_ones(502, 80) + drawn_evens(503, 40):
            if len(rows) < 9:
                self.check(rows, False)

    def test_even_parts_of_uneven_and_uneven_parts_of_even(self):
        self.assertEqual((greatest_even(merger=Merger(SUMS)), even_number(Merger(SUMS))), ((0, 2), 5))
        for rows in (MIDDLE, LEFT, RIGHT, HURRIED, SWAPPED):
            part = greatest_even(Merger(rows))
            self.assertLess(len(part), len(rows))
            self.assertTrue(is_even(part_merger(Merger(rows), part)))
        seen = 0
        for rows in drawn_evens(504, 200) + small_ones(10):
            if is_even(Merger(rows)):
                self.assertEqual(greatest_even(Merger(rows)), tuple(range(len(rows))))
                seen += even_number(Merger(rows)) < 2 ** len(rows) - 1
        self.assertGreater(seen, 2)

    def test_the_limits(self):
        start = perf_counter()
        turn = tuple(tuple((one + other) % 12 for other in range(12)) for one in range(12))
        for rows in (turn, ((None,) * 12,) * 12, (tuple(range(12)),) * 12, (((-1,) + (None,) * 11),) + ((None,) * 12,) * 11):
            self.assertEqual(greatest_even(Merger(rows)), tuple(range(12)))
            self.assertLess(2 ** 8, even_number(Merger(rows)))
        for rows in [sums_to(8)] + [rows for rows in drawn_ones(505, 60) if len(rows) in (7, 8)]:
            self.assertEqual(len(greatest_even(Merger(rows))) == len(rows), is_even(Merger(rows)))
            even_number(Merger(rows))
        self.assertLess(perf_counter() - start, 4)
        start = perf_counter()
        for _ in range(200):
            greatest_even(Merger(SUMS))
            even_number(Merger(SUMS))
        self.assertLess(perf_counter() - start, 1)


def others_done(machine):
    """By number, (first queue, table) of what queues do, but nothing and single commands."""
    idle = tuple(range(len(machine[0])))
    seen, found = set(machine) | {idle}, []
    last = [((at,), table) for at, table in enumerate(machine)]
    while last:
        further = []
        for queue, table in last:
            for at, behind in enumerate(machine):
                done = tuple(behind[state] for state in table)
                if done not in seen:
                    seen.add(done)
                    further.append((queue + (at,), done))
        found += further
        last = further
        if len(found) > 200:
            return None
    return found


def evened_plainly(machine, most):
    """evened by all choices; how many were looked at. None for more than most."""
    found, looked = others_done(machine), 0
    for size in range(min(12 - len(machine), len(found)) + 1):
        for choice in combinations(found, size):
            looked += 1
            if looked > most:
                return None, None
            if is_even(machine_merger(list(machine) + [table for _, table in choice])):
                return tuple(queue for queue, _ in choice), looked
    return None, looked


def choices_to(found, size):
    """How many choices there are of as many, or fewer."""
    return sum(len(list(combinations(range(found), many))) for many in range(size + 1))


def counters(limit, steps):
    """Machines that count up to a limit."""
    return tuple(tuple(min(limit - 1, state + step) for state in range(limit)) for step in steps)


def drawn_machines(seed, many):
    drawn = Drawn(seed)
    found = []
    while len(found) < many:
        kind = len(found) % 5
        if kind == 4:
            turns = sorted({1 + drawn.below(9) for _ in range(2 + drawn.below(4))})
            found.append(tuple(tuple((state + turn) % 10 for state in range(10)) for turn in turns))
        elif kind == 0:
            found.append(drawn_machine(drawn, 1 + drawn.below(3), 3))
        elif kind == 1:
            found.append(counters(5 + drawn.below(4), sorted({1 + drawn.below(2), 1 + drawn.below(3)})))
        else:
            states = 3 + drawn.below(3)
            tables = []
            for _ in range(1 + drawn.below(3)):
                table = tuple(sorted(drawn.below(states) for _ in range(states)))
                if table not in tables and table != tuple(range(states)):
                    tables.append(table)
            if tables:
                found.append(tuple(tables))
    return found


class Further(ErrorChecks, unittest.TestCase):
    def test_by_all_choices(self):
        seen, sizes = 0, {}
        for machine in drawn_machines(511, 400):
            if others_done(machine) is None:
                self.raises(TooGreat, 200, evened, machine)
                continue
            want, looked = evened_plainly(machine, 1500)
            if looked is None:
                continue
            got = evened(machine, most=20000)
            self.assertTrue(alike(got, want), (machine, got, want))
            seen += 1
            sizes[None if want is None else len(want)] = sizes.get(None if want is None else len(want), 0) + 1
        self.assertGreater(seen, 300)
        self.assertLessEqual({0, 1, 2, 3}, set(sizes))

    def test_what_it_tells(self):
        for machine in drawn_machines(512, 120):
            try:
                queues = evened(machine=machine)
            except TooGreat as error:
                self.assertIn(error.most, (200, 20000))
                continue
            if queues is None:
                self.assertFalse(is_even(machine_merger(machine)))
                continue
            self.assertTrue(no_lists(queues))
            tables = list(machine) + [done_table(machine, queue) for queue in queues]
            self.assertTrue(is_even(machine_merger(tables)))
            self.assertEqual(list(queues), sorted(queues, key=lambda queue: (len(queue), queue)))
            for queue, table in zip(queues, tables[len(machine):]):
                self.assertEqual(dict((done, first) for first, done in others_done(machine))[table], queue)

    def test_all_that_queues_do(self):
        # With all of it as commands all neighbours merge.
        for machine in drawn_machines(513, 60):
            found = others_done(machine)
            if found is not None and len(machine) + len(found) <= 12:
                rows = machine_rows(list(machine) + [table for _, table in found])
                self.assertTrue(all(None not in row for row in rows))
                self.assertIsNotNone(evened(machine))

    def test_turns_of_a_circle(self):
        # Two of four may go, though others of them do not merge: 1, 2, 7 and 2 here.
        turns = [tuple((state + turn) % 10 for state in range(10)) for turn in (1, 2, 3, 4, 7)]
        self.assertFalse(is_even(machine_merger(turns)))
        self.assertEqual(evened(turns), evened_plainly(tuple(turns), 10 ** 6)[0])

    def test_none_needed(self):
        self.assertEqual(evened([list(table) for table in THREES]), ())
        self.assertEqual(evened(((0,) * 60,)), ())
        self.assertEqual(evened([[0, 0]]), ())
        twelve = [tuple((state + step) % 60 for state in range(60)) for step in range(5, 61, 5)][:11]
        self.assertEqual(evened(twelve), ())

    def test_can_not_be_helped(self):
        for machine in (counters(20, (1, 2)), counters(60, (1, 2, 3)), counters(60, (2, 3, 5, 7)), counters(40, range(1, 13))):
            self.assertFalse(is_even(machine_merger(machine)))
            self.assertIsNone(evened(machine))
        # Twelve commands already, or just enough room.
        self.assertEqual(evened(counters(13, range(1, 12))), ((0, 10),))
        self.assertIsNone(evened(counters(14, range(1, 13))))
        self.assertEqual(evened(counters(13, range(1, 13))), ())

    def test_too_many_things(self):
        # All turns and exchanges of five or six states: 120, 720 things.
        five = [(1, 2, 3, 4, 0), (1, 0, 2, 3, 4)]
        six = [(1, 2, 3, 4, 5, 0), (1, 0, 2, 3, 4, 5)]
        self.assertEqual(len(others_done(five)), 117)
        self.raises(TooGreat, 200, evened, six)
        self.raises(TooGreat, 200, evened, six, most=1)
        evened(five)

    def test_just_two_hundred(self):
        # Nothing merges, so none is needed; but what queues do is counted.
        for orders, many in (((7, 29), 200), ((3, 4, 17), 200), ((12, 17), 201), ((3, 5, 14), 206)):
            machine = cycles(orders)
            self.assertTrue(is_even(machine_merger(machine)))
            total = 1
            for order in orders:
                total *= order
            # All but nothing, and what single commands do.
            self.assertEqual(total - 1 - len(machine), many)
            if many > 200:
                self.raises(TooGreat, 200, evened, machine)
                self.raises(TooGreat, 200, evened, machine, most=1)
            else:
                self.assertEqual(evened(machine), ())
                self.assertEqual(evened(machine, most=1), ())

    def test_most(self):
        for machine in drawn_machines(514, 200):
            found = others_done(machine)
            if found is None:
                continue
            want = evened(machine)
            total = choices_to(min(len(found), 60), min(3, 12 - len(machine)) if want is None else len(want))
            for most in (1, 2, 5, 50):
                try:
                    self.assertEqual(evened(machine, most=most), want)
                except TooGreat as error:
                    self.assertEqual(error.most, most)
                    self.assertLess(most, total)
        # The search does not go on for ever.
        for most in (1, 3, 10):
            self.raises(TooGreat, most, evened, counters(60, (1, 3, 4)), most=most)
        with self.assertRaises(TypeError):
            evened(THREES, 5)

    def test_wrong_machines(self):
        wrong = [[(1, 0), (1, 0)], [(0, 1)], [(1, 0), (0,)], [(2, 0)], [[0, 0]] * 13, [(0,) * 61], [(1, 0), [1, 0]]]
        for value in any_values() + wrong:
            if alike(value, [(0, 0)]):
                self.assertEqual(evened(value), ())
                continue
            with self.assertRaises(BadHouse) as caught:
                machine_merger(value)
            self.raises(BadHouse, caught.exception.at, evened, value)
            self.raises(BadHouse, caught.exception.at, evened, value, most=1)

    def test_soon(self):
        start = perf_counter()
        for _ in range(100):
            evened([(1, 2, 3, 4, 4), (2, 3, 4, 4, 4)])
            evened(THREES)
        self.assertLess(perf_counter() - start, 1)


def cycles(orders):
    """Turns of some circles, each with as many states as its order, beside one another."""
    tables, first, states = [], 0, sum(orders)
    for order in orders:
        table = list(range(states))
        for at in range(order):
            table[first + at] = first + (at + 1) % order
        tables.append(tuple(table))
        first += order
    return tables


if __name__ == "__main__":
    unittest.main()
