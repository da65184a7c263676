"""Point 10: texts."""

import unittest

from foursfold.errors import BadQueue, BadText, Unsound
from foursfold.mergers import Merger
from foursfold.texts import merger_text, queue_text, read_merger, read_queue

from plainly import Drawn, all_mergers, drawn_rows
from wrong import ErrorChecks, any_values, queue_fault

TURNS = ((1, -1, 2), (-1, 0, 2), (None, None, 2))
TEXT = "merger 3\n1 x 2\nx 0 2\n- - 2"


def wide(commands):
    """Each command merges with all to the other one."""
    return tuple(tuple(range(commands)) for _ in range(commands))


class MergerTexts(ErrorChecks, unittest.TestCase):
    def test_text_of_a_merger(self):
        self.assertEqual(merger_text(Merger(TURNS)), TEXT)
        self.assertEqual(merger_text(merger=Merger([(None,)])), "merger 1\n-")
        self.assertEqual(merger_text(Merger(wide(12))).split("\n")[0], "merger 12")
        self.assertEqual(merger_text(Merger(wide(12))).split("\n")[12], "0 1 2 3 4 5 6 7 8 9 10 11")

    def test_there_and_back(self):
        drawn = Drawn(41)
        rows = [drawn_rows(drawn, 1 + drawn.below(12), 40) for _ in range(20)]
        for one in all_mergers(1) + all_mergers(2) + rows + [wide(11), wide(12)]:
            read = read_merger(merger_text(Merger(one)))
            self.assertIsInstance(read, Merger)
            self.assertEqual(read.rows, one)
        self.assertEqual(read_merger(text=TEXT).rows, TURNS)

    def test_what_is_no_string(self):
        for value in any_values() + [b"merger 1\n-"]:
            if not isinstance(value, str):
                self.raises(BadText, 0, read_merger, value)

    def test_bad_first_lines(self):
        heads = ["", " ", "merger", "merger ", "merger 0", "merger 13", "merger 03", "merger  3", " merger 3", "merger 3 ",
                 "Merger 3", "merger -3", "merger +3", "merger 3.0", "merger x", "merger three", "merger\t3", "3",
                 "merger \u00b3", "merger \u0663", "merger 3\r", "merger " + "1" * 5000, "merger 1_0", "merger 3 3"]
        for head in heads:
            self.raises(BadText, 1, read_merger, head + TEXT[8:])
            self.raises(BadText, 1, read_merger, head)
        self.raises(BadText, 1, read_merger, "\n" + TEXT)

    def test_bad_words(self):
        words = ["", "3", "-1", "00", "01", "X", "None", "+1", "1.", "--", "xx", "1x", "\u00b2", "\u0662", "9" * 5000, "\t",
                 "1_0", "1 1", " ", "1\r", "?"]
        for word in words:
            self.raises(BadText, 2, read_merger, f"merger 3\n1 {word} 2\nx 0 2\n- - 2")
            self.raises(BadText, 3, read_merger, f"merger 3\n1 x 2\nx 0 {word}\n- - {word}")
            self.raises(BadText, 4, read_merger, f"merger 3\n1 x 2\nx 0 2\n{word} - 2")
        self.raises(BadText, 2, read_merger, "merger 1\n")
        self.raises(BadText, 2, read_merger, "merger 1\n- ")
        self.raises(BadText, 2, read_merger, "merger 1\n -")

    def test_lines_that_lack_or_are_too_many(self):
        lines = TEXT.split("\n")
        for many in range(1, 4):
            self.raises(BadText, many + 1, read_merger, "\n".join(lines[:many]))
            self.raises(BadText, many + 1, read_merger, "\n".join(lines[:many]) + "\n")
            self.raises(BadText, many + 1, read_merger, "\n".join(lines[:many]) + "\n\n" + "\n".join(lines[many:]))
        self.raises(BadText, 5, read_merger, TEXT + "\n")
        self.raises(BadText, 5, read_merger, TEXT + "\n- - 2\n- - 2")
        self.raises(BadText, 2, read_merger, "merger 3\n1 x\nx 0\n- -")
        self.raises(BadText, 2, read_merger, "merger 3\n1 x 2 2\nx 0 2\n- - 2")
        self.raises(BadText, 1, read_merger, TEXT.replace("\n", "\r\n"))
        self.raises(BadText, 2, read_merger, "merger 1\n-\r")
        self.raises(BadText, 1, read_merger, TEXT.replace("\n", "\v"))

    def test_unsound_last(self):
        self.raises(Unsound, (0, 0, 0), read_merger, "merger 2\n1 0\n- -")
        self.raises(BadText, 4, read_merger, "merger 2\n1 0\n- -\n")
        self.raises(BadText, 3, read_merger, "merger 2\n1 0\n- 2")


class QueueTexts(ErrorChecks, unittest.TestCase):
    def test_text_of_a_queue(self):
        merger = Merger(wide(12))
        for queue, text in (((), "-"), ([], "-"), ([3], "3"), ((0, 11, 10), "0 11 10")):
            self.assertEqual(queue_text(merger, queue), text)
            self.assertEqual(read_queue(merger, text), tuple(queue))
        self.assertEqual(read_queue(text="1 0", merger=merger), (1, 0))
        self.assertEqual(queue_text(queue=[1, 0], merger=merger), "1 0")

    def test_there_and_back(self):
        drawn = Drawn(42)
        for commands in (1, 2, 9, 10, 11, 12):
            merger = Merger(wide(commands))
            for length in (0, 1, 2, 30, 10000):
                queue = drawn.queue(commands, length)
                self.assertEqual(read_queue(merger, queue_text(merger, queue)), queue)

    def test_bad_queues(self):
        merger = Merger(TURNS)
        for value in any_values():
            at = queue_fault(value, 3)
            if at is not None:
                self.raises(BadQueue, at, queue_text, merger, value)

    def test_what_is_no_string(self):
        for value in any_values():
            if not isinstance(value, str):
                self.raises(BadText, 0, read_queue, Merger(TURNS), value)

    def test_the_first_bad_word_is_told(self):
        merger = Merger(wide(11))
        for text, at in (("", 0), (" ", 0), ("- -", 0), ("-1", 0), ("0 -", 1), ("0  1", 1), ("0 1 ", 2), (" 0", 0), ("11", 0),
                         ("10 11 x", 1), ("00", 0), ("0 01", 1), ("1\n0", 0), ("1\t0", 0), ("0 +1", 1), ("0 x", 1),
                         ("0 1\n", 1), ("0 \u00b2", 1), ("\u0661", 0), ("0 " + "1" * 5000, 1), ("--", 0), ("- ", 0), (" -", 0),
                         ("1.0", 0), ("0,1", 0), ("0 1_0", 1)):
            self.raises(BadText, at, read_queue, merger, text)

    def test_the_10001st_word(self):
        merger = Merger(TURNS)
        self.assertEqual(len(read_queue(merger, " ".join(["2"] * 10000))), 10000)
        self.raises(BadText, 10000, read_queue, merger, " ".join(["2"] * 10001))
        self.raises(BadText, 10000, read_queue, merger, " ".join(["2"] * 20000 + ["x"]))
        self.raises(BadText, 10000, read_queue, merger, " ".join(["2"] * 10000) + " ")
        self.raises(BadText, 9999, read_queue, merger, " ".join(["2"] * 9999 + ["3", "2", "2"]))


if __name__ == "__main__":
    unittest.main()
