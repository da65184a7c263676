"""Points 22 and 23: stories."""

import unittest

from foursfold.courts import is_even, is_single, single_three, uneven_four
from foursfold.errors import BadWay, Refused
from foursfold.mergers import Merger
from foursfold.stories import single_story, story_ends, story_holds, two_holds, uneven_story

from plainly import HUGE, Drawn, folded_of, go_way, merge_at, nested, places
from samples import CELL, HURRIED, SUMS, SWAPPED, TURNS, drawn_ones, named_ones, small_ones
from wrong import ErrorChecks, any_values, is_list, no_lists, queue_fault

HOLDS = ("uneven", (0, 0, 1, 0), (1,), (0, 1))
TWO = ("two", (0, 0, 1), (0,), (1,))


def listed(value):
    return [listed(part) for part in value] if isinstance(value, tuple) else value


def drawn_way(drawn, rows, queue):
    """A drawn way to a folded queue, and this."""
    way = []
    while places(rows, queue):
        way.append(drawn.pick(places(rows, queue)))
        queue = merge_at(rows, queue, way[-1])
    return tuple(way), queue


def slow_end(rows, queue, way):
    """The folded queue to which a value leads as a way of a value, or None."""
    if not is_list(queue) or len(queue) > 40 or queue_fault(queue, len(rows)) is not None or not is_list(way):
        return None
    queue = tuple(queue)
    for place in way:
        if type(place) is not int or place not in places(rows, queue):
            return None
        queue = merge_at(rows, queue, place)
    return None if places(rows, queue) else queue


def slow_story(rows, value):
    """Whether story_holds, whether two_holds, and both ends."""
    if not is_list(value) or len(value) != 4:
        return False, False, None
    ends = slow_end(rows, value[1], value[2]), slow_end(rows, value[1], value[3])
    if None in ends or type(value[0]) is not str:
        return False, False, None
    unlike = len(ends[0]) != len(ends[1])
    return value[0] == "uneven" and unlike, value[0] == "two" and ends[0] != ends[1], ends


class Told(ErrorChecks, unittest.TestCase):
    def test_uneven_stories(self):
        seen = 0
        for rows in small_ones(8) + named_ones() + drawn_ones(101, 150):
            merger = Merger(rows)
            story = uneven_story(merger=merger)
            if is_even(merger):
                self.assertIsNone(story)
                continue
            seen += 1
            word, queue, way, other = story
            self.assertTrue(no_lists(story))
            self.assertEqual((word, queue), ("uneven", uneven_four(merger)[1]))
            ends = go_way(rows, queue, way), go_way(rows, queue, other)
            self.assertEqual(len(ends[0]), 3)
            self.assertLess(len(ends[1]), 3)
            self.assertLessEqual(set(ends), set(folded_of(rows, queue)))
            self.assertIs(story_holds(merger, story), True)
            self.assertIs(two_holds(merger, story), False)
            self.assertEqual(story_ends(merger, story), ends)
        self.assertGreater(seen, 150)

    def test_single_stories(self):
        seen = 0
        for rows in small_ones(8) + named_ones() + drawn_ones(102, 150):
            merger = Merger(rows)
            story = single_story(merger=merger)
            if is_single(merger):
                self.assertIsNone(story)
                continue
            seen += 1
            word, queue, way, other = story
            self.assertTrue(no_lists(story))
            self.assertEqual((word, queue), ("two", single_three(merger)))
            ends = go_way(rows, queue, way), go_way(rows, queue, other)
            self.assertNotEqual(ends[0], ends[1])
            self.assertLessEqual(set(ends), set(folded_of(rows, queue)))
            self.assertIs(two_holds(merger, story), True)
            self.assertIs(story_holds(merger, story), False)
            self.assertEqual(story_ends(merger, story), ends)
        self.assertGreater(seen, 150)


class Held(ErrorChecks, unittest.TestCase):
    def holds(self, rows, value, story, two, ends=None):
        merger = Merger(rows)
        self.assertIs(story_holds(merger, value), story)
        self.assertIs(two_holds(value=value, merger=merger), two)
        if story or two:
            self.assertEqual(story_ends(merger, value), ends)
            self.assertTrue(no_lists(story_ends(merger, value)))
        else:
            self.raises(Refused, value, story_ends, merger, value)

    def test_drawn_ways(self):
        drawn = Drawn(103)
        seen = [0, 0, 0]
        for rows in named_ones() + drawn_ones(104, 400):
            for word in ("uneven", "two", "uneven", "two"):
                queue = drawn.queue(len(rows), 3 + drawn.below(7))
                (way, end), (other, other_end) = drawn_way(drawn, rows, queue), drawn_way(drawn, rows, queue)
                story = word == "uneven" and len(end) != len(other_end)
                two = word == "two" and end != other_end
                value = (word, queue, way, other)
                self.holds(rows, value, story, two, (end, other_end))
                self.holds(rows, listed(value), story, two, (end, other_end))
                seen[0 if story else 1 if two else 2] += 1
                if way:
                    self.holds(rows, (word, queue, way[:-1], other), False, False)
                    self.holds(rows, (word, queue, other, way + (0,)), False, False)
        self.assertGreater(min(seen), 10)

    def test_any_value(self):
        for value in any_values():
            for rows in (SUMS, TURNS, CELL):
                self.holds(rows, value, False, False)
                for at in range(4):
                    for good in (HOLDS, TWO):
                        other = good[:at] + (value,) + good[at + 1:]
                        self.holds(rows, other, *slow_story(rows, other))
                    self.holds(rows, [value] * (at + 1), False, False)

    def test_wrong_forms(self):
        ends = ((0, 2, 0), (1, 2))
        self.holds(SUMS, HOLDS, True, False, ends)
        self.holds(SUMS, listed(HOLDS), True, False, ends)
        self.holds(SUMS, TWO, False, True, ((1, 1), (0, 2)))
        self.holds(SUMS, ("two",) + HOLDS[1:], False, True, ends)
        self.holds(SUMS, ("uneven",) + TWO[1:], False, False)
        for word in ("Uneven", "uneven ", "", "one", "tw", None, True, b"uneven", ["uneven"], Merger(SUMS)):
            self.holds(SUMS, (word,) + HOLDS[1:], False, False)
        for value in (HOLDS + ((),), HOLDS[:3], HOLDS[1:], (HOLDS,), [HOLDS], ((), ()), ("uneven", HOLDS[1:])):
            self.holds(SUMS, value, False, False)
        for queue in ((0, 0, 1, 3), (0, 0, True, 0), (0, 0, "1", 0), "0010", (0, 0, 1, HUGE), nested(39), None):
            self.holds(SUMS, ("uneven", queue, (1,), (0, 1)), False, False)
        for way in ((3,), (-1,), (True,), 1, None, "1", ((1,),), (1, 0), (HUGE,), (-HUGE,), (), nested(39)):
            self.holds(SUMS, ("uneven", (0, 0, 1, 0), way, (0, 1)), False, False)
            self.holds(SUMS, ("uneven", (0, 0, 1, 0), (0, 1), way), False, False)
        self.holds(SUMS, ("uneven", (0, 0, 1, 0), (0, 1), (1,)), True, False, ends[::-1])
        self.holds(SUMS, ("uneven", (0, 0, 1, 0), (1,), (1,)), False, False)
        self.holds(SUMS, ("uneven", (0, 0, 1, 0), (0, 1), (2, 0)), False, False)

    def test_short_queues(self):
        for queue in ((), (0,)):
            for word in ("uneven", "two"):
                self.holds(SUMS, (word, queue, (), ()), False, False)
        self.holds(SWAPPED, ("two", (0, 1, 0), (0,), (1,)), False, True, ((2, 0), (0, 2)))
        self.holds(SWAPPED, ("uneven", (0, 1, 0), (0,), (1,)), False, False)

    def test_forty_commands_and_no_more(self):
        for length in (4, 39, 40, 41, 42):
            queue = (3,) * (length - 4) + (0, 1, 2, 3)
            at = length - 4
            ends = (queue[:at] + (4, 2, 3), queue[:at] + (0, 3))
            value = ("uneven", queue, (at,), (at + 1, at + 1))
            self.holds(HURRIED, value, length < 41, False, ends)
            self.holds(HURRIED, ("two",) + value[1:], False, length < 41, ends)

    def test_later_changes(self):
        value = listed(HOLDS)
        ends = story_ends(Merger(SUMS), value)
        value[1][0] = 5
        value[2].append(7)
        self.assertEqual(ends, ((0, 2, 0), (1, 2)))
        self.assertIs(story_holds(Merger(SUMS), value), False)

    def test_what_is_refused_is_the_value_itself(self):
        value = ["two", [0, 0], [], []]
        with self.assertRaises(Refused) as caught:
            story_ends(Merger(SUMS), value)
        self.assertIs(caught.exception.at, value)
        self.assertFalse(issubclass(Refused, BadWay))


if __name__ == "__main__":
    unittest.main()
