"""Point 59: the desk."""

import unittest
from time import perf_counter

from foursfold.courts import is_even, merger_word, uneven_four
from foursfold.desk import Desk
from foursfold.errors import BadText, TooGreat, Uneven, Unsound
from foursfold.heads import head_depth, safe_number
from foursfold.lengths import length_house
from foursfold.live import Live
from foursfold.mergers import Merger
from foursfold.ownhouse import ring_paper
from foursfold.texts import merger_text, read_merger

from evens import DEPTHS, DROPPED, FREE, HANDED, LAST, LIFT, STEPS, TURNS, drawn_evens, upwards
from plainly import Drawn, plain_of
from samples import CELL, SUMS, SWAPPED
from test_live import drawn_edit, edit, whole
from wrong import ErrorChecks, alike, any_values


def desk_of(rows):
    return Desk(merger_text(Merger(rows)))


def row_text(numbers):
    return " ".join(map(str, numbers)) or "-"


def left(rows, queue):
    return len(plain_of(rows, queue)[0])


def line_of(name, at, command):
    """The line of an edit of a live queue."""
    return {
        "put": f"put {command}", "put_amid": f"amid {at} {command}", "change_amid": f"change {at} {command}",
        "strike_amid": f"strike {at}", "fold_all": "keep",
    }[name]


class Answers(ErrorChecks, unittest.TestCase):
    def check_tellings(self, desk, rows, queue):
        """What a desk tells of its queue, by what is told of the queue itself."""
        merger, folded = Merger(rows), plain_of(rows, queue)[0]
        struck = [left(rows, queue[:at] + queue[at + 1:]) for at in range(len(queue))]
        told = {
            "left": str(len(folded)), "queue": row_text(queue), "fold": row_text(folded), "struck": row_text(struck),
            "safe": str(safe_number(merger, folded)),
        }
        for command in range(len(rows)):
            put = [left(rows, queue[:at] + (command,) + queue[at:]) for at in range(len(queue) + 1)]
            told[f"where {command}"] = row_text(put)
        for line, answer in told.items():
            self.assertTrue(alike(desk.say(line), answer), (rows, queue, line))

    def check_of_merger(self, desk, rows):
        """What a desk tells of its merger."""
        merger = Merger(rows)
        word, commands = ring_paper(merger)
        self.assertEqual(desk.say("ring"), "ring" if word == "ring" else row_text(commands))
        self.assertEqual(desk.say("word"), merger_word(merger))
        depth = head_depth(merger)
        self.assertEqual(desk.say("depth"), "none" if depth is None else str(depth))
        try:
            house = length_house(merger)
            self.assertEqual(desk.say("notes"), "none" if house is None else str(len(house[2])))
        except TooGreat:
            self.assertEqual(desk.say("notes"), "refused")

    def test_drawn_lines(self):
        drawn = Drawn(599)
        for rows in [CELL, TURNS, LIFT, FREE, HANDED, STEPS] + drawn_evens(600, 40):
            desk, live = desk_of(rows), Live(Merger(rows))
            self.assertIsInstance(desk.live, Live)
            self.assertTrue(alike((desk.live.queue, desk.live.merger), ((), Merger(rows))))
            for _ in range(25):
                kind = drawn.below(10)
                if kind == 0:
                    want = str(live.left()) if live.undo() else "nothing"
                    self.assertEqual(desk.say("undo"), want)
                elif kind == 1:
                    want = str(live.left()) if live.redo() else "nothing"
                    self.assertEqual(desk.say(line="redo"), want)
                else:
                    change = drawn_edit(drawn, len(rows), len(live.queue))
                    want = str(edit(live, *change))
                    self.assertEqual(desk.say(line_of(*change)), want)
                self.assertEqual(whole(desk.live), whole(live))
            self.check_tellings(desk, rows, live.queue)
            self.assertEqual(whole(desk.live), whole(live))
            self.check_of_merger(desk, rows)

    def test_mergers_of_all_kinds(self):
        for rows in [LAST, DROPPED, STEPS, upwards(4), upwards(12)] + list(DEPTHS.values()):
            self.check_of_merger(desk_of(rows), rows)
            self.check_tellings(desk_of(rows), rows, ())

    def test_one_by_one(self):
        desk = desk_of(CELL)
        for line, answer in (
            ("left", "0"), ("queue", "-"), ("fold", "-"), ("struck", "-"), ("safe", "0"), ("where 1", "1"), ("undo", "nothing"),
            ("redo", "nothing"), ("keep", "0"), ("undo", "0"), ("redo", "0"), ("put 0", "1"), ("put 1", "0"),
            ("amid 1 0", "1"), ("queue", "0 0 1"), ("fold", "0"), ("struck", "0 0 2"), ("where 1", "0 0 0 0"),
            ("change 2 0", "3"), ("strike 0", "2"), ("undo", "3"), ("redo", "2"), ("redo", "nothing"), ("keep", "2"),
            ("left", "2"), ("queue", "0 0"), ("ring", "ring"), ("safe", "0"), ("word", "clear"), ("depth", "none"),
            ("notes", "none"),
        ):
            self.assertTrue(alike(desk.say(line), answer), line)
        desk = desk_of(LIFT)
        self.assertEqual([desk.say(line) for line in ("put 0", "put 1", "put 1", "safe", "depth")], ["1", "2", "3", "2", "2"])
        # No ring: the last of these longest ones is the least.
        self.assertEqual(desk_of(STEPS).say("ring"), "0 1")
        self.assertEqual(desk_of(STEPS).say("notes"), "3")
        self.assertEqual(desk_of(DROPPED).say("ring"), "0")
        self.assertEqual(desk_of(HANDED).say("word"), "even")

    def test_refused(self):
        desk = desk_of(CELL)
        for line in ("put 0", "put 1", "undo"):
            desk.say(line)
        before = whole(desk.live)
        for line in (
            "put 2", "put 999999999", "amid 2 0", "amid 0 2", "amid 999999999 999999999", "change 1 0", "change 0 2",
            "strike 1", "strike 999999999", "where 2", "where 12",
        ):
            self.assertTrue(alike(desk.say(line), "refused"), line)
            self.assertEqual(whole(desk.live), before)
        for line in ("strike 0", "change 0 0"):
            self.assertEqual(desk_of(CELL).say(line), "refused")
        # More folded queues than length_house looks at.
        wide = desk_of(((None,) * 11 + (0,),) + ((None,) * 12,) * 11)
        self.assertTrue(is_even(wide.live.merger))
        if wide.say("notes") != "refused":
            self.assertLess(int(wide.say("notes")), 5000)

    def test_notes_of_too_many_queues(self):
        seen = set()
        for rows in list(DEPTHS.values()):
            desk = desk_of(rows)
            try:
                seen.add(len(length_house(desk.live.merger)[2]) == int(desk.say("notes")))
            except TooGreat:
                self.assertEqual(desk.say("notes"), "refused")
                seen.add("refused")
        self.assertEqual(seen, {True, "refused"})

    def test_no_more_than_ten_thousand(self):
        desk = desk_of(FREE)
        for _ in range(1000):
            desk.say("put 0")
        self.assertEqual(desk.say("left"), "1000")


class Forms(ErrorChecks, unittest.TestCase):
    def test_any_value(self):
        desk = desk_of(CELL)
        desk.say("put 0")
        before = whole(desk.live)
        lines = [
            "put", "put ", " put 0", "put 0 ", "put  0", "put\t0", "put 0\n", "\nput 0", "put 00", "put 01", "put -1",
            "put +1", "put 1.0", "put 0x1", "put x", "put -", "put 0 0", "put 1000000000", "put 0000000000", "put 1_0",
            "put \u0661", "put \u00b2", "put\u00a00", "PUT 0", "Put 0", "amid 0", "amid 0 0 0", "amid 0  0", "amid 00 0",
            "amid 0 00", "change 0", "change 0 0 0", "strike", "strike 0 0", "strike 01", "keep 0", "undo 1", "redo 1",
            "left 0", "left ", "queue ", "fold 0", "struck 0", "where", "where 0 0", "where 00", "ring 0", "safe 0",
            "word 0", "depth 0", "notes 0", "quit", "none", "refused", "nothing", "put_amid 1 0", "fold_all", "say", "0",
            "put 0 # ", "left left", "left\n", "-", "put 1234567890", "put 0" + " " * 95, "x" * 100, "put " + "1" * 96,
        ]
        for value in any_values() + lines:
            self.raises(BadText, 0, desk.say, value)
        self.assertEqual(whole(desk.live), before)
        self.assertEqual(desk.say("put 123456789"), "refused")

    def test_texts(self):
        for value in any_values():
            try:
                merger = read_merger(value)
            except BadText as error:
                self.raises(BadText, error.at, Desk, value)
            else:
                self.assertEqual(Desk(text=value).live.merger, merger)
        for text, at in (("merger 2\n- -\n- 2", 3), ("merger 2\n- -", 3), ("merger 1\n-\n", 3), ("", 1)):
            self.raises(BadText, at, Desk, text)
        self.raises(Unsound, (0, 0, 1), Desk, "merger 2\n0 x\n- -")
        for rows in (SUMS, SWAPPED):
            self.raises(Uneven, uneven_four(Merger(rows))[1], desk_of, rows)

    def test_the_limits(self):
        drawn = Drawn(601)
        turn = tuple(tuple((one + other) % 12 for other in range(12)) for one in range(12))
        pairs = tuple(tuple(-1 if one + other == 11 else None for other in range(12)) for one in range(12))
        start = perf_counter()
        for rows in (turn, pairs, ((None,) * 12,) * 12, upwards(12)):
            desk = desk_of(rows)
            for _ in range(60):
                desk.say(line_of(*drawn_edit(drawn, 12, len(desk.live.queue))))
            for line in ("queue", "fold", "struck", "where 3", "ring", "safe", "word", "depth", "notes", "undo", "redo"):
                self.assertNotEqual(desk.say(line), "")
        self.assertLess(perf_counter() - start, 4)


if __name__ == "__main__":
    unittest.main()
