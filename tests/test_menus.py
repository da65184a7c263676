"""Points 57 and 58: changes of rows, and streams of them."""

import unittest
from itertools import combinations, product
from time import perf_counter

from foursfold.courts import is_even, uneven_four
from foursfold.errors import BadHouse, BadQueue, Refused
from foursfold.machines import machine_merger
from foursfold.menus import Menu, folded_stream, row_after, rows_after, whole_menu
from foursfold.mergers import Merger

from plainly import HUGE, Drawn, plain_of
from samples import CELL
from wrong import ErrorChecks, alike, any_values, is_below, is_list, is_number, queue_fault


def done(values, change, row):
    """What a change makes of a row, word for word as point 57 has it."""
    if change[0] == "put":
        return change[1]
    if change[0] == "drop":
        return None
    if row is None:
        return None
    if change[0] == "set":
        return change[1]
    total = row + change[1]
    return total - values if total >= values else total


def all_changes(values):
    """All changes there are, those that do nothing among them."""
    numbers = range(values)
    found = [("put", number) for number in numbers] + [("set", number) for number in numbers]
    return found + [("add", number) for number in numbers if number] + [("drop",)]


def table_of(values, change):
    """By state, absent and then values, the next one."""
    ends = [done(values, change, row) for row in [None] + list(range(values))]
    return tuple(0 if end is None else end + 1 for end in ends)


def menu_fault(values, changes):
    """The index that BadHouse is to carry, None for a menu."""
    seen = [tuple(range(values + 1))]
    for at, change in enumerate(changes):
        if table_of(values, change) in seen:
            return at
        seen.append(table_of(values, change))
    return None


def is_change(value, values):
    if not is_list(value) or not value or type(value[0]) is not str:
        return False
    if value[0] == "drop":
        return len(value) == 1
    least = {"put": 0, "set": 0, "add": 1}.get(value[0])
    return least is not None and len(value) == 2 and is_below(value[1], values) and value[1] >= least


def drawn_menu(drawn, most=6):
    """A menu of changes that were drawn, unlike ones that do something."""
    while True:
        values = 1 + drawn.below(most)
        changes = [drawn.pick(all_changes(values)) for _ in range(1 + drawn.below(8))]
        changes = [change for at, change in enumerate(changes) if change not in changes[:at]]
        if menu_fault(values, changes) is None:
            return Menu(values, changes)


def drawn_stream(drawn, menu, length, rows=4):
    return tuple((drawn.below(rows), drawn.below(len(menu.changes))) for _ in range(length))


def drawn_rows(drawn, menu, rows=4):
    return tuple((row, drawn.below(menu.row_values)) for row in range(rows) if drawn.below(2))


def rows_one_by_one(menu, rows, stream):
    """The rows behind all changes of a stream, made one by one."""
    table = dict(rows)
    for row, command in stream:
        table[row] = done(menu.row_values, menu.changes[command], table.get(row))
    return tuple(sorted((row, value) for row, value in table.items() if value is not None))


class Menus(ErrorChecks, unittest.TestCase):
    def test_attributes(self):
        drawn = Drawn(571)
        for _ in range(200):
            menu = drawn_menu(drawn)
            values, changes = menu.row_values, menu.changes
            self.assertTrue(alike(menu.tables, tuple(table_of(values, change) for change in changes)))
            again = Menu(values=values, changes=[list(change) for change in changes])
            self.assertTrue(alike((again.row_values, again.changes, again.tables), (values, changes, menu.tables)))
            self.assertEqual(again.merger, machine_merger(menu.tables))
        changes = [["put", 0], ["drop"]]
        menu = Menu(1, changes)
        changes[0][1] = 7
        changes.pop()
        self.assertTrue(alike((menu.changes, menu.tables), ((("put", 0), ("drop",)), ((1, 1), (0, 0)))))

    def test_whole_menus(self):
        for values in (1, 2, 3, 4):
            menu = whole_menu(values=values)
            idle = tuple(range(values + 1))
            want = tuple(change for change in all_changes(values) if table_of(values, change) != idle)
            self.assertTrue(alike((menu.row_values, menu.changes), (values, want)))
            self.assertIsInstance(menu, Menu)
            self.assertTrue(all(None not in row for row in menu.merger.rows))
            self.assertTrue(is_even(menu.merger))
        self.assertEqual(whole_menu(1).changes, (("put", 0), ("drop",)))
        for value in any_values() + [3, 4, 5]:
            if is_below(value, 5) and value > 0:
                self.assertEqual(whole_menu(value).row_values, value)
            else:
                self.raises(Refused, value, whole_menu, value)

    def test_other_menus_may_be_uneven(self):
        adds = Menu(7, [("add", 1), ("add", 2), ("add", 3)])
        self.assertEqual(uneven_four(adds.merger), ("middle", (0, 0, 1, 0)))
        self.assertTrue(is_even(Menu(7, [("add", 1), ("add", 6)]).merger))
        self.assertTrue(is_even(Menu(59, [("add", 1)]).merger))

    def test_any_values(self):
        good = [("put", 0), ("drop",)]
        for value in any_values() + [58, 59, 60, 61]:
            if is_below(value, 60) and value > 0:
                menu = Menu(value, good)
                self.assertEqual((menu.row_values, len(menu.tables[0])), (value, value + 1))
            else:
                self.raises(Refused, value, Menu, value, good)
                self.raises(Refused, value, Menu, value, value)

    def test_any_changes(self):
        changes = [
            ("put", 0), ["put", 2], ("put", 3), ("put", -1), ("put", True), ("put", None), ("put",), ("put", 0, 0), "put",
            ("set", 2), ("set", 3), ("set", False), ("set", "0"), ("set", HUGE), ("add", 1), ("add", 2), ("add", 0),
            ("add", 3), ("add", True), ("add",), ("drop",), ["drop"], ("drop", 0), "drop", ("Drop",), (), [], None, 0,
            ("row", 0), ("row", 1), ("", 1), (None, 1), (["add"], 1), (1, 1), (0, "put"), (None, 0), (["put"], 0), (Merger(CELL), 0), ("put", Merger(CELL)), ("put", [0]),
            ("", 0), ("put ", 0),
        ]
        tried = any_values() + [[change] for change in changes] + [(("put", 1), change) for change in changes]
        tried += [[("put", 0)] * 13, [("put", 0)] * 12, [("put", 0), ("drop",), ("drop",)], [("set", 1), ("put", 1)]]
        for value in tried:
            if not is_list(value) or not 1 <= len(value) <= 12 or not all(is_change(one, 3) for one in value):
                self.raises(Refused, value, Menu, 3, value)
            elif menu_fault(3, value) is not None:
                self.raises(BadHouse, menu_fault(3, value), Menu, 3, value)
            else:
                self.assertTrue(alike(Menu(3, value).changes, tuple(map(tuple, value))))

    def test_changes_that_do_nothing_or_the_like(self):
        for values in (1, 2, 3):
            for many in (1, 2, 3):
                for changes in product(all_changes(values), repeat=many) if values < 3 else combinations(all_changes(3), 2):
                    at = menu_fault(values, changes)
                    if at is None:
                        self.assertEqual(Menu(values, changes).changes, changes)
                    else:
                        self.raises(BadHouse, at, Menu, values, changes)
        self.raises(BadHouse, 0, Menu, 1, [("set", 0)])
        self.raises(BadHouse, 1, Menu, 1, [("put", 0), ("set", 0)])
        self.raises(BadHouse, 2, Menu, 2, [("put", 0), ("drop",), ("put", 0), ("set", 0)])


class Rows(ErrorChecks, unittest.TestCase):
    def test_row_after(self):
        drawn = Drawn(581)
        for _ in range(300):
            menu = drawn_menu(drawn)
            queue = drawn.queue(len(menu.changes), drawn.below(9))
            for row in [None] + list(range(menu.row_values)):
                want = row
                for command in queue:
                    want = done(menu.row_values, menu.changes[command], want)
                self.assertTrue(alike(row_after(menu=menu, row=row, queue=list(queue)), want))

    def test_wrong_rows_and_queues(self):
        menu = Menu(3, [("put", 1), ("add", 1), ("drop",)])
        for value in any_values() + [3, 4]:
            if value is None or is_below(value, 3):
                self.assertTrue(alike(row_after(menu, value, ()), value))
            else:
                self.raises(Refused, value, row_after, menu, value, ())
                self.raises(Refused, value, row_after, menu, value, 7)
            at = queue_fault(value, 3)
            if at is not None:
                self.raises(BadQueue, at, row_after, menu, 2, value)


class Streams(ErrorChecks, unittest.TestCase):
    def test_folded_stream(self):
        drawn = Drawn(591)
        for _ in range(300):
            menu = drawn_menu(drawn)
            stream = drawn_stream(drawn, menu, drawn.below(14))
            want = []
            for row in range(4):
                left = plain_of(menu.merger.rows, tuple(command for one, command in stream if one == row))[0]
                if left:
                    want.append((row, left))
            self.assertTrue(alike(folded_stream(menu=menu, stream=list(map(list, stream))), tuple(want)))

    def test_rows_after(self):
        drawn = Drawn(592)
        for _ in range(300):
            menu = drawn_menu(drawn)
            stream, rows = drawn_stream(drawn, menu, drawn.below(14)), drawn_rows(drawn, menu)
            want = rows_one_by_one(menu, rows, stream)
            got = rows_after(menu=menu, rows=list(map(list, rows)), stream=list(map(list, stream)))
            self.assertTrue(alike(got, want))
            self.assertTrue(alike(rows_after(menu, rows, stream), want))
            # What is left of each row's changes does the same.
            folded = tuple((row, command) for row, queue in folded_stream(menu, stream) for command in queue)
            self.assertEqual(rows_after(menu, rows, folded), want)

    def test_merging_changes_of_one_row(self):
        drawn, seen = Drawn(593), 0
        for _ in range(200):
            menu = whole_menu(1 + drawn.below(4)) if drawn.below(2) else drawn_menu(drawn)
            stream, rows = drawn_stream(drawn, menu, 10, 3), drawn_rows(drawn, menu, 3)
            want = rows_one_by_one(menu, rows, stream)
            while True:
                pairs = []
                for i, j in combinations(range(len(stream)), 2):
                    row = stream[i][0]
                    if stream[j][0] == row and all(one != row for one, _ in stream[i + 1:j]):
                        end = menu.merger.rows[stream[i][1]][stream[j][1]]
                        if end is not None:
                            pairs.append((i, j, end))
                if not pairs:
                    break
                i, j, end = drawn.pick(pairs)
                middle = () if end == -1 else ((stream[i][0], end),)
                stream = stream[:i] + middle + stream[i + 1:j] + stream[j + 1:]
                self.assertEqual(rows_after(menu, rows, stream), want)
                seen += 1
        self.assertGreater(seen, 500)

    def test_the_edges(self):
        menu = whole_menu(2)
        self.assertEqual((folded_stream(menu, []), rows_after(menu, [], [])), ((), ()))
        self.assertEqual(rows_after(menu, [(0, 1), (10 ** 30, 0)], []), ((0, 1), (10 ** 30, 0)))
        # A row that is absent stays so, if it is not put there.
        stream = [(7, command) for command in range(2, 6)] + [(10 ** 30, 1)]
        self.assertEqual(rows_after(menu, [], stream), ((10 ** 30, 1),))
        self.assertEqual(rows_after(menu, [(7, 1)], stream), ((10 ** 30, 1),))
        self.assertEqual(folded_stream(menu, stream), ((7, (5,)), (10 ** 30, (1,))))

    def stream_fault(self, value, commands):
        """The index that BadQueue is to carry, None for a stream."""
        if not is_list(value) or len(value) > 10000:
            return -1
        for at, pair in enumerate(value):
            if not is_list(pair) or len(pair) != 2 or not is_number(pair[0]) or not is_below(pair[1], commands):
                return at
        return None

    def any_pairs(self):
        pairs = [
            (0, 0), [1, 1], (2, 2), (HUGE, 0), (0, 3), (0, -1), (-1, 0), (True, 0), (0, True), (None, 0), (0, None), (0,),
            (0, 0, 0), "00", (), None, 5, ("0", 0), ([0], 0), (0, [0]), (Merger(CELL), 0), (0, HUGE),
        ]
        found = any_values() + [[pair] for pair in pairs] + [((0, 1), pair) for pair in pairs]
        return found + [[(1, 0), (1, 1)], [(1, 0), (0, 1)], [(0, 0)] * 10000, [(0, 0)] * 10001, pairs[:2], pairs[:3], pairs[:4]]

    def test_wrong_streams(self):
        menu = Menu(3, [("put", 1), ("add", 1), ("drop",)])
        for value in self.any_pairs():
            at = self.stream_fault(value, 3)
            if at is None:
                self.assertTrue(alike(rows_after(menu, (), value), rows_one_by_one(menu, (), value)))
            else:
                self.raises(BadQueue, at, folded_stream, menu, value)
                self.raises(BadQueue, at, rows_after, menu, [(0, 1)], value)

    def test_wrong_rows(self):
        menu = Menu(3, [("put", 1), ("add", 1), ("drop",)])
        for value in self.any_pairs():
            right = self.stream_fault(value, 3) is None
            if right and all(one[0] < other[0] for one, other in zip(value, value[1:])):
                self.assertTrue(alike(rows_after(menu, value, ()), tuple(map(tuple, value))))
            else:
                self.raises(Refused, value, rows_after, menu, value, ())
                self.raises(Refused, value, rows_after, menu, value, 7)
        many = tuple((row, row % 3) for row in range(10001))
        self.assertEqual(rows_after(menu, many, ()), many)

    def test_the_limits(self):
        drawn = Drawn(594)
        changes = [("put", 58), ("drop",)] + [("add", number) for number in range(1, 6)] + [("set", 0), ("set", 1)]
        start = perf_counter()
        for menu in (Menu(59, changes), whole_menu(4), Menu(59, [("add", number) for number in range(1, 13)])):
            stream, rows = drawn_stream(drawn, menu, 200, 20), drawn_rows(drawn, menu, 20)
            want = rows_one_by_one(menu, rows, stream)
            self.assertEqual(rows_after(menu, rows, stream), want)
            for row, queue in folded_stream(menu, stream):
                self.assertEqual(plain_of(menu.merger.rows, queue)[0], queue)
            long = drawn_stream(drawn, menu, 10000, 50)
            self.assertEqual(rows_after(menu, rows, long), rows_one_by_one(menu, rows, long))
            self.assertLessEqual(len(folded_stream(menu, long)), 50)
            self.assertIn(row_after(menu, 1, (0, 1) * 100), [None] + list(range(menu.row_values)))
        for _ in range(300):
            menu = whole_menu(2)
            folded_stream(menu, [(1, 4), (3, 1), (1, 4), (3, 5)])
            rows_after(menu, [(1, 0)], [(1, 4), (3, 1), (1, 4), (3, 5)])
        self.assertLess(perf_counter() - start, 2)


if __name__ == "__main__":
    unittest.main()
