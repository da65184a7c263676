"""Points 25 to 28: classes."""

import unittest
from itertools import product

from foursfold.classes import (
    class_graph, class_holds, class_place, class_queue, class_size, cut_numbers, hand_way, is_alike,
)
from foursfold.courts import need_even
from foursfold.errors import BadQueue, Refused, TooGreat, Uneven
from foursfold.folding import folded_queues, plain_fold
from foursfold.mergers import Merger

from evens import WIDE, amalgam, drawn_evens, named_evens, nine, small_evens
from plainly import HUGE, Drawn, folded_of, machine_rows, nested
from samples import CELL, HANDED, LAST, SUMS, TURNS
from slowly import class_of, cuts_at, folded_all, folded_to, graph_tells, handed, over_pairs, overs, ranks, told_graph
from slowly import ways_told
from wrong import ErrorChecks, any_values, is_below, no_lists, queue_fault

ONES = (cut_numbers, class_graph, class_size)


def samples():
    return small_evens(40) + named_evens() + drawn_evens(251, 90)


def some_folded(rows, seed, many=40):
    """Some folded queues to 5 commands, the short ones among them."""
    drawn = Drawn(seed)
    found = folded_to(rows, 2)[:20]
    for length in (3, 4, 5):
        longer = folded_all(rows, length) if len(rows) < 5 or length < 4 else long_ones(rows, drawn, length)
        if longer:
            found.extend(drawn.pick(longer) for _ in range(many // 3))
    return found


def long_ones(rows, drawn, length):
    """Some folded queues of a length, drawn command by command."""
    found = []
    for _ in range(20):
        queue = ()
        while len(queue) < length:
            further = [other for other in range(len(rows)) if not queue or rows[queue[-1]][other] is None]
            if not further:
                break
            queue += (drawn.pick(further),)
        else:
            found.append(queue)
    return found


class Told(unittest.TestCase):
    def test_samples(self):
        sizes = set()
        for at, rows in enumerate(samples()):
            merger, pairs = Merger(rows), over_pairs(rows)
            for queue in some_folded(rows, at):
                queues = class_of(pairs, queue)
                sizes.add(len(queues))
                self.check_cuts(merger, pairs, queue, queues)
                self.check_numbers(merger, queue, queues)
        self.assertGreater(len(sizes), 8)

    def check_cuts(self, merger, pairs, queue, queues):
        layers = [cuts_at(pairs, queues, at) for at in range(len(queue) + 1)]
        self.assertEqual(cut_numbers(merger, list(queue)), tuple(map(len, layers)))
        graph = class_graph(merger, list(queue))
        self.assertEqual(graph, ("class", told_graph(pairs, queue)))
        self.assertTrue(no_lists(graph))
        self.assertIs(class_holds(merger, list(queue), graph), True)

    def check_numbers(self, merger, queue, queues):
        self.assertEqual(class_size(merger, list(queue)), len(queues))
        for number, other in enumerate(queues):
            self.assertEqual(class_queue(merger, queue, number), other)
            self.assertIs(type(class_queue(merger, queue, number)), tuple)
            self.assertEqual(class_place(merger, list(queue), list(other)), number)

    def test_of_another_class(self):
        drawn = Drawn(252)
        for rows in samples():
            merger, pairs = Merger(rows), over_pairs(rows)
            queues = folded_to(rows, 3)[:120]
            for _ in range(20):
                one, other = drawn.pick(queues), drawn.pick(queues)
                told = class_of(pairs, one)
                want = told.index(other) if other in told else None
                self.assertEqual(class_place(merger, one, other), want)

    def test_empty_queues_and_single_commands(self):
        for rows in named_evens():
            merger = Merger(rows)
            self.assertEqual(cut_numbers(merger, ()), (1,))
            self.assertEqual(class_graph(merger, []), ("class", ()))
            self.assertEqual((class_size(merger, ()), class_queue(merger, (), 0)), (1, ()))
            self.assertEqual((class_place(merger, (), []), hand_way(merger, (), [])), (0, ()))
            for command in range(len(rows)):
                self.assertEqual(cut_numbers(merger, [command]), (1, 1))
                self.assertEqual(class_graph(merger, [command]), ("class", (((0, command, 0),),)))
                self.assertEqual(class_queue(merger, (command,), 0), (command,))
                self.assertIsNone(class_place(merger, (command,), ()))
                self.assertIsNone(class_place(merger, (), (command,)))

    def test_by_names(self):
        merger = Merger(nine())
        queue = (0, 1, 8)
        self.assertEqual(class_queue(number=1, queue=queue, merger=merger, most=6), (0, 5, 7))
        self.assertEqual(class_place(other=[0, 5, 7], queue=queue, merger=merger, most=6), 1)
        self.assertEqual(hand_way(other=(0, 5, 7), one=queue, merger=merger, most=3), ((1, (5, 7)),))
        self.assertIs(is_alike(other=(0, 3, 2, 2, 7), one=queue, merger=merger, most=6), False)
        self.assertIs(class_holds(value=class_graph(merger, queue), queue=queue, merger=merger), True)
        with self.assertRaises(TypeError):
            class_size(merger, queue, 100)


class ItHolds(unittest.TestCase):
    def test_classes_are_of_one_kind(self):
        for at, rows in enumerate(samples()):
            merger, pairs = Merger(rows), over_pairs(rows)
            for queue in some_folded(rows, 7 * at, 12):
                for other in class_of(pairs, queue):
                    self.assertEqual(len(other), len(queue))
                    self.assertEqual(folded_of(rows, other), (other,))

    def test_all_folded_queues_are_of_one_class(self):
        drawn = Drawn(253)
        for rows in samples():
            merger = Merger(rows)
            for length in (3, 5, 7):
                queue = drawn.queue(len(rows), length)
                first, *others = folded_queues(merger, queue)
                for other in others:
                    self.assertIsNotNone(class_place(merger, first, other))
                    self.assertIs(is_alike(merger, queue, other), True)

    def test_beginnings_are_exchanged(self):
        seen = 0
        for at, rows in enumerate(samples()):
            pairs = over_pairs(rows)
            for queue in some_folded(rows, 3 * at, 9):
                queues = class_of(pairs, queue)
                for one, other in product(queues[:6], queues[:6]):
                    for cut in range(len(queue)):
                        if one != other and class_of(pairs, one[:cut]) == class_of(pairs, other[:cut]):
                            seen += 1
                            self.assertIn(one[:cut] + other[cut:], queues)
        self.assertGreater(seen, 1000)


class Errors(ErrorChecks, unittest.TestCase):
    def test_bad_queues(self):
        merger, uneven = Merger(nine()), Merger(SUMS)
        for value in any_values():
            for mine, commands in ((merger, 9), (uneven, 3)):
                at = queue_fault(value, commands)
                if at is None:
                    continue
                for function in ONES:
                    self.raises(BadQueue, at, function, mine, value, most=1)
                self.raises(BadQueue, at, class_queue, mine, value, -1, most=1)
                self.raises(BadQueue, at, class_holds, mine, value, value)
                for function in (class_place, hand_way):
                    self.raises(BadQueue, at, function, mine, value, "no queue", most=1)
                    self.raises(BadQueue, at, function, mine, (0,), value, most=1)
                self.raises(BadQueue, at, is_alike, mine, value, "no queue", most=1)
                self.raises(BadQueue, at, is_alike, mine, (0, 1), value, most=1)

    def test_queues_that_are_not_folded(self):
        for merger, wrong, good in ((Merger(nine()), [1, 2], (0,)), (Merger(SUMS), (0, 0), (2,))):
            for function in ONES:
                self.raises(Refused, wrong, function, merger, wrong, most=1)
            self.raises(Refused, wrong, class_queue, merger, wrong, -1)
            self.raises(Refused, wrong, class_holds, merger, wrong, 5)
            for function in (class_place, hand_way):
                self.raises(Refused, wrong, function, merger, wrong, "no queue")
                self.raises(Refused, wrong, function, merger, good, wrong)
                self.raises(BadQueue, -1, function, merger, good, "no queue")

    def test_uneven_ahead_of_what_is_left(self):
        merger, four = Merger(SUMS), (0, 0, 1, 0)
        for function in ONES:
            self.raises(Uneven, four, function, merger, (2, 2), most=1)
        self.raises(Uneven, four, class_queue, merger, (2, 2), -1, most=1)
        self.raises(Uneven, four, class_holds, merger, (2, 2), 5)
        self.raises(Uneven, four, class_holds, merger, (), ("class", ()))
        for function in (class_place, hand_way):
            self.raises(Uneven, four, function, merger, (2, 2), (1, 1), most=1)
            self.raises(Uneven, four, function, merger, (2, 2), (1,), most=1)
        self.raises(Uneven, four, is_alike, merger, (0, 0), (0, 0), most=1)
        self.raises(Uneven, four, is_alike, merger, (0,), (0, 0, 0, 0))

    def test_numbers_refused(self):
        merger = Merger(nine())
        for value in any_values() + [3]:
            if is_below(value, 3):
                continue
            self.raises(Refused, value, class_queue, merger, (0, 1, 8), value)
            self.raises(TooGreat, 5, class_queue, merger, (0, 1, 8), value, most=5)
            if not is_below(value, 1):
                self.raises(Refused, value, class_queue, merger, (), value)

    def test_most(self):
        drawn = Drawn(254)
        for rows in samples():
            merger, queue = Merger(rows), drawn.pick(folded_to(rows, 4)[:300])
            total = sum(cut_numbers(merger, queue))
            for function, behind in (
                (cut_numbers, ()), (class_graph, ()), (class_size, ()), (class_queue, (0,)), (class_place, (queue,)),
                (class_place, ((),)), (is_alike, (queue,)),
            ):
                want = function(merger, queue, *behind)
                self.assertEqual(function(merger, queue, *behind, most=total), want)
                for most in {1, total // 2, total - 1} & set(range(1, total)):
                    self.raises(TooGreat, most, function, merger, queue, *behind, most=most)

    def test_most_if_nothing_is_said(self):
        merger = Merger(WIDE)
        # At each of the ones but the first there are twice as many cuts, less 1.
        queue, wider = (0,) + (1,) * 12 + (0,), (0,) + (1,) * 13 + (0,)
        self.assertEqual(sum(cut_numbers(merger, queue)), 8205)
        self.assertEqual(sum(cut_numbers(merger, wider, most=16398)), 16398)
        for function, behind in (
            (cut_numbers, ()), (class_graph, ()), (class_size, ()), (class_queue, (0,)), (class_place, (wider,)),
            (is_alike, (wider,)), (hand_way, ((0,) * 15,)),
        ):
            self.raises(TooGreat, 10000, function, merger, wider, *behind)
            self.raises(TooGreat, 10000, function, merger, (0,) + (1,) * 390 + (0,), *behind[:-1], *[
                (0,) * 392 if isinstance(one, tuple) else one for one in behind[-1:]
            ])
        self.assertIs(class_holds(merger, wider, class_graph(merger, wider, most=20000)), True)

    def test_alike_and_most(self):
        merger = Merger(amalgam(2, 2, 2))
        queue = (0, 3, 0, 3)
        self.assertEqual(cut_numbers(merger, queue), (1, 2, 2, 2, 1))
        self.raises(TooGreat, 7, is_alike, merger, queue, queue, most=7)
        self.raises(TooGreat, 7, is_alike, merger, queue, (3, 0, 3, 0), most=7)
        # If they do not come to equally many commands, no class is looked at.
        self.assertIs(is_alike(merger, queue, (0, 3, 0), most=1), False)
        self.assertIs(is_alike(merger, (), (0, 2), most=1), True)
        # It is the first one's class that counts.
        self.assertIs(is_alike(Merger(nine()), (8, 8, 8), (0, 1, 8), most=4), False)
        self.raises(TooGreat, 5, is_alike, Merger(nine()), (0, 1, 8), (8, 8, 8), most=5)


class Ways(ErrorChecks, unittest.TestCase):
    def test_shortest(self):
        drawn = Drawn(255)
        seen = 0
        for at, rows in enumerate(samples()):
            merger, pairs = Merger(rows), over_pairs(rows)
            for queue in some_folded(rows, 5 * at, 9):
                away = ranks(pairs, queue)
                for other in [drawn.pick(sorted(away)) for _ in range(4)]:
                    seen += away[other] > 2
                    way = hand_way(merger, list(queue), list(other), most=len(away))
                    self.assertEqual(len(way), away[other])
                    self.assertTrue(no_lists(way))
                    now = queue
                    for step in way:
                        self.assertIn(step, overs(pairs, now))
                        now = handed(now, *step)
                    self.assertEqual(now, other)
        self.assertGreater(seen, 30)

    def test_none(self):
        merger = Merger(nine())
        self.assertIsNone(hand_way(merger, (0, 1, 8), (0, 1, 7), most=3))
        self.assertIsNone(hand_way(merger, (0, 1, 8), (0, 1)))
        self.assertIsNone(hand_way(merger, (), (1,), most=1))
        self.assertEqual(hand_way(merger, (0, 1, 7), (0, 1, 7), most=1), ())

    def test_most_is_for_queues(self):
        merger = Merger(amalgam(2, 2, 2))
        queue = (0, 3) * 4
        self.assertIsNone(hand_way(merger, queue, (3, 0) * 4, most=128))
        for most in (1, 2, 60, 127):
            self.raises(TooGreat, most, hand_way, merger, queue, (3, 0) * 4, most=most)

    def test_classes_of_thousands(self):
        merger = Merger(amalgam(2, 2, 2))
        queue = (0, 3) * 6 + (0,)
        self.assertEqual(class_size(merger, queue), 4096)
        other = class_queue(merger, queue, 4095)
        way = hand_way(merger, queue, other)
        for step in way:
            self.assertIn(step, overs(over_pairs(merger.rows), queue))
            queue = handed(queue, *step)
        self.assertEqual(queue, other)
        # Long queues in which something moves along.
        merger, queue = Merger(WIDE), (0,) * 388 + (1,) * 10 + (0,)
        size = class_size(merger, queue, most=20000)
        self.assertEqual(size, 4093)
        self.assertIsNotNone(hand_way(merger, queue, class_queue(merger, queue, size - 1, most=20000)))
        self.assertIsNone(hand_way(merger, queue, (0,) * 399))


class Alike(ErrorChecks, unittest.TestCase):
    def test_folded_into_one_class(self):
        drawn = Drawn(256)
        told = []
        for rows in samples():
            merger, pairs = Merger(rows), over_pairs(rows)
            for length in (0, 1, 2, 4, 6):
                one, other = drawn.queue(len(rows), length), drawn.queue(len(rows), length + drawn.below(2))
                folded = folded_of(rows, other)[0]
                alike = folded in class_of(pairs, folded_of(rows, one)[0])
                told.append(alike)
                self.assertIs(is_alike(merger, list(one), list(other)), alike)
                self.assertIs(is_alike(merger, other, one), alike)
                self.assertIs(is_alike(merger, one, plain_fold(merger, one)), True)
        self.assertTrue(100 < sum(told) < len(told) - 100)

    def test_houses_do_not_part_them(self):
        drawn = Drawn(257)
        # A machine is a house of its merger.
        tables = ((1, 2, 0), (2, 0, 1), (0, 0, 0))
        self.assertEqual(machine_rows(tables), TURNS)
        for _ in range(300):
            one, other = drawn.queue(3, drawn.below(6)), drawn.queue(3, drawn.below(6))
            if is_alike(Merger(TURNS), one, other):
                for state in range(3):
                    ends = [state, state]
                    for at, queue in enumerate((one, other)):
                        for command in queue:
                            ends[at] = tables[command][ends[at]]
                    self.assertEqual(*ends)

    def test_queues_of_10000(self):
        merger = Merger(CELL)
        self.assertIs(is_alike(merger, (0, 1) * 5000, ()), True)
        self.assertIs(is_alike(merger, (0, 1) * 4800 + (0,) * 400, (0,) * 400), True)
        self.assertIs(is_alike(Merger(LAST), (0,) * 9999 + (1,), (0, 1)), True)


class Holds(unittest.TestCase):
    def check(self, merger, pairs, queue, steps):
        got = class_holds(merger, queue, ["class", [list(map(list, rows)) for rows in steps]])
        self.assertIs(got, graph_tells(pairs, queue, [tuple(map(tuple, rows)) for rows in steps]))
        return got

    def test_numbered_otherwise(self):
        drawn = Drawn(258)
        for at, rows in enumerate(samples()):
            merger, pairs = Merger(rows), over_pairs(rows)
            for queue in some_folded(rows, 11 * at, 6):
                steps = class_graph(merger, queue)[1]
                names = [{0: 0}]
                for row in steps[:-1]:
                    numbers = sorted({step[2] for step in row})
                    start = drawn.pick((0, 3, HUGE))
                    names.append({number: start + name for number, name in zip(numbers, numbers[::-1])})
                names.append({0: 0})
                renamed = [
                    [(names[i][cut], command, names[i + 1][behind]) for cut, command, behind in row][::-1]
                    for i, row in enumerate(steps)
                ]
                self.assertTrue(self.check(merger, pairs, queue, renamed))

    def test_cuts_told_more_than_once(self):
        for at, rows in enumerate(samples()):
            merger, pairs = Merger(rows), over_pairs(rows)
            for queue in some_folded(rows, 13 * at, 6):
                queues = class_of(pairs, queue)
                # A cut for each beginning.
                steps = []
                for i in range(len(queue)):
                    heads = sorted({one[:i] for one in queues})
                    tails = sorted({one[:i + 1] for one in queues})
                    last = i == len(queue) - 1
                    steps.append([
                        (heads.index(tail[:-1]), tail[-1], 0 if last else tails.index(tail)) for tail in tails
                    ])
                self.assertTrue(self.check(merger, pairs, queue, steps))

    def test_changed_a_little(self):
        drawn = Drawn(259)
        told = []
        for at, rows in enumerate(samples()):
            merger, pairs = Merger(rows), over_pairs(rows)
            for queue in [queue for queue in some_folded(rows, 17 * at, 9) if queue]:
                steps = [list(map(list, row)) for row in class_graph(merger, queue)[1]]
                for _ in range(4):
                    row = drawn.pick(steps)
                    kind = drawn.below(5)
                    if kind == 0 and row:
                        row.remove(drawn.pick(row))
                    elif kind == 1:
                        row.append([drawn.below(3), drawn.below(len(rows)), drawn.below(3)])
                    elif kind == 2 and row:
                        drawn.pick(row)[2] = drawn.below(3)
                    elif kind == 3 and row:
                        drawn.pick(row)[1] = drawn.below(len(rows))
                    elif row:
                        drawn.pick(row)[0] = drawn.below(3)
                    told.append(self.check(merger, pairs, queue, steps))
        self.assertTrue(20 < sum(told) < len(told))

    def test_unlike_beginnings_at_one_cut(self):
        # 0 and 1 are unlike, and either one goes on alike; but just one is asked for.
        merger = Merger(((None,) * 3,) * 3)
        self.assertIs(class_holds(merger, (0, 2), ("class", (((0, 0, 0),), ((0, 2, 0),)))), True)
        self.assertIs(class_holds(merger, (0, 2), ("class", (((0, 0, 0), (0, 1, 0)), ((0, 2, 0),)))), False)
        # From 0 and from 2 the same leads on, and all ways are queues of the class.
        rows = [[None] * 7 for _ in range(7)]
        rows[1][3], rows[3][6], rows[1][4], rows[4][6] = 0, 5, 2, 5
        merger, queue = need_even(Merger(rows)), (0, 6, 2)
        self.assertEqual(cut_numbers(merger, queue), (1, 3, 1, 1))
        # One cut is told twice, so that there are as many as there should be.
        joined = (((0, 0, 0), (0, 1, 1), (0, 2, 0)), ((0, 6, 0), (1, 5, 1)), ((0, 2, 0), (1, 2, 0)))
        self.assertEqual(sorted(ways_told(joined)[0]), [(0, 6, 2), (1, 5, 2), (2, 6, 2)])
        self.assertIs(class_holds(merger, queue, ("class", joined)), False)
        apart = (((0, 0, 0), (0, 1, 1), (0, 2, 2)), ((0, 6, 0), (1, 5, 1), (2, 6, 0)), ((0, 2, 0), (1, 2, 0)))
        self.assertIs(class_holds(merger, queue, ("class", apart)), True)
        # Here the ways are not those of the class, either.
        merger, queue = Merger(nine()), (0, 1, 8)
        self.assertIs(class_holds(merger, queue, class_graph(merger, queue)), True)
        joined = (((0, 0, 0), (0, 6, 0)), ((0, 1, 0), (0, 5, 1), (0, 4, 1)), ((0, 8, 0), (1, 7, 0)))
        self.assertIs(class_holds(merger, queue, ("class", joined)), False)

    def test_any_values(self):
        merger = Merger(nine())
        graph = class_graph(merger, (0, 1, 8))
        for value in any_values() + [nested(40), ("class", nested(39))]:
            self.assertIs(class_holds(merger, (), value), False)
            self.assertIs(class_holds(merger, (0, 1, 8), value), False)
            self.assertIs(class_holds(merger, (0, 1, 8), (value, graph[1])), False)
            self.assertIs(class_holds(merger, (0, 1, 8), ("class", value)), False)
            self.assertIs(class_holds(merger, (0, 1, 8), ("class", (value,) + graph[1][1:])), False)
            self.assertIs(class_holds(merger, (0, 1, 8), ("class", graph[1], value)), False)
            self.assertIs(class_holds(merger, (0, 1, 8), ("class", graph[1] + (value,))), False)
            self.assertIs(class_holds(merger, (0, 1, 8), ("class", ((value,),) + graph[1][1:])), False)
            for at in range(3):
                step = [0, 0, 0]
                step[at] = value
                want = type(value) is int and value == 0
                self.assertIs(class_holds(merger, (0,), ("class", [[step]])), want)
                step = [0, 1, 1]
                step[at] = value
                told = (((0, 0, 0), step), ((0, 2, 0),))
                self.assertIs(class_holds(merger, (0, 2), ("class", told)), False)
        for value in (("class", ()), ["class", []]):
            self.assertIs(class_holds(merger, (), value), True)
            self.assertIs(class_holds(merger, (0,), value), False)

    def test_more_cuts_than_can_be_told(self):
        merger, queue = Merger(WIDE), (3,) + (1,) * 390 + (3,)
        steps = [((0, command, 0),) for command in queue]
        self.assertIs(class_holds(merger, queue, ("class", steps)), False)


class Limits(unittest.TestCase):
    def test_queues_of_400(self):
        for rows in named_evens():
            merger = Merger(rows)
            for queue in long_ones(rows, Drawn(260), 400)[:3]:
                try:
                    numbers = cut_numbers(merger, queue)
                except TooGreat:
                    continue
                size = class_size(merger, queue)
                self.assertEqual(len(numbers), 401)
                self.assertIs(class_holds(merger, queue, class_graph(merger, queue)), True)
                for number in (0, size // 2, size - 1):
                    other = class_queue(merger, queue, number)
                    self.assertEqual(class_place(merger, queue, other), number)
                    self.assertIs(is_alike(merger, queue, other), True)

    def test_circles(self):
        for common in (2, 3, 4):
            rows = amalgam(common, 2, 2)
            queue = (0, len(rows) - 1) * 200
            self.assertIsNone(rows[0][len(rows) - 1])
            self.assertEqual(cut_numbers(Merger(rows), queue), (1,) + (common,) * 399 + (1,))
            self.assertEqual(class_size(Merger(rows), queue), common ** 399)

    def test_mergers_of_twelve(self):
        rows = tuple(tuple(row) + (None,) * 3 for row in nine()) + ((None,) * 12,) * 3
        merger = need_even(Merger(rows))
        self.assertEqual(class_size(merger, (0, 1, 8, 11) * 100), 3 ** 100)
        self.assertEqual(hand_way(merger, (11, 0, 1, 8), (11, 6, 4, 7)), ((2, (5, 7)), (1, (6, 4))))


if __name__ == "__main__":
    unittest.main()
