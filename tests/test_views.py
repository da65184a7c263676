"""Point 8: views."""

import unittest
from itertools import product

from foursfold.errors import Refused
from foursfold.mergers import Merger
from foursfold.views import check_view, coarsest_view, finest_view, unlike_pairs, viewed_merger

from plainly import HUGE, Drawn, all_mergers, drawn_machine, drawn_rows, is_sound, machine_rows
from plainly import merge_at, places
from wrong import ErrorChecks, alike, any_values, is_below, is_list


def groupings(commands):
    """All groupings of so many commands."""
    found = [()]
    for _ in range(commands):
        found = [one + (group,) for one in found for group in range(max(one, default=-1) + 2)]
    return found


def looks(rows, view, one, other):
    """What a grouping lets be seen of two commands' merging."""
    end = rows[one][other]
    return end if end in (None, -1) else ("group", view[end])


def slow_unlike(rows, view):
    pairs = list(product(range(len(rows)), repeat=2))
    for later in pairs:
        like = [pair for pair in pairs if [view[at] for at in pair] == [view[at] for at in later]]
        lesser = [pair for pair in like if pair < later]
        if any(looks(rows, view, *pair) != looks(rows, view, *later) for pair in lesser):
            return min(like), later
    return None


def slow_views(rows):
    return [view for view in groupings(len(rows)) if slow_unlike(rows, view) is None]


def together(view, one, other):
    return view[one] == view[other]


def drawn_set(seed, many):
    """Mergers of which some commands merge alike, too."""
    drawn = Drawn(seed)
    for at in range(many):
        commands = 1 + drawn.below(5)
        if at % 3 == 2:
            rows = machine_rows(drawn_machine(drawn, 1 + drawn.below(3), 3))
            if len(rows) > 6:
                continue
        else:
            rows = drawn_rows(drawn, commands, commands * commands * (at % 3), 1 + drawn.below(6))
        yield rows
        twins = doubled(rows, drawn.below(len(rows)))
        if len(rows) < 6 and is_sound(twins):
            yield twins


def doubled(rows, command):
    """The rows with a last command that merges just as another one."""
    wide = [row + (row[command],) for row in rows]
    return tuple(wide) + (wide[command],)


class Views(ErrorChecks, unittest.TestCase):
    def test_unlike_pairs(self):
        for rows in all_mergers(2) + all_mergers(3)[::40] + list(drawn_set(21, 60)):
            merger = Merger(rows)
            for view in groupings(len(rows)):
                want = slow_unlike(rows, view)
                self.assertEqual(unlike_pairs(merger, list(view)), want)
                if want is None:
                    self.assertEqual(check_view(merger, list(view)), view)
                    self.assertIs(type(check_view(merger, view)), tuple)
                else:
                    self.raises(Refused, view, check_view, merger, view)
                    self.raises(Refused, view, viewed_merger, merger, view)

    def test_what_is_no_grouping(self):
        merger = Merger([(None,) * 3] * 3)
        bad = [[1, 0, 0], [0, 2, 1], (0, 0, 2), [0, 0], [0, 0, 0, 0], [0, 0, False], [0, True, 1], [0, -1, 0],
               [0, 0, "0"], [0, 0, [0]], "000", [0, 0, HUGE], (0, 1, None), [0, 1, merger]]
        for value in any_values() + bad:
            if alike(value, [0, 0, 0]) or alike(value, (0, 0, 0)):
                self.assertEqual(check_view(merger, value), (0, 0, 0))
                continue
            for function in (unlike_pairs, check_view, viewed_merger):
                self.raises(Refused, value, function, merger, value)
        for view in groupings(3):
            self.assertEqual(check_view(value=view, merger=merger), view)
        self.assertEqual(len(groupings(3)), 5)

    def test_viewed_merger(self):
        seen = 0
        for rows in all_mergers(2) + list(drawn_set(22, 60)):
            merger = Merger(rows)
            for view in slow_views(rows):
                viewed = viewed_merger(merger, view)
                self.assertEqual(viewed.commands, max(view) + 1)
                self.assertTrue(is_sound(viewed.rows))
                for one, other in product(range(len(rows)), repeat=2):
                    end = rows[one][other]
                    want = view[end] if end not in (None, -1) else end
                    self.assertEqual(viewed.rows[view[one]][view[other]], want)
                seen += max(view) + 1 < len(rows)
        self.assertGreater(seen, 50)

    def test_queues_and_their_groups_merge_at_the_same_places(self):
        drawn = Drawn(23)
        for rows in drawn_set(24, 40):
            for view in slow_views(rows):
                groups = viewed_merger(Merger(rows), view).rows
                queue = drawn.queue(len(rows), 6)
                seen = tuple(view[command] for command in queue)
                while True:
                    self.assertEqual(places(rows, queue), places(groups, seen))
                    if not places(rows, queue):
                        break
                    place = drawn.pick(places(rows, queue))
                    queue, seen = merge_at(rows, queue, place), merge_at(groups, seen, place)
                    self.assertEqual(tuple(view[command] for command in queue), seen)

    def test_coarsest_view(self):
        for rows in all_mergers(2) + all_mergers(3)[::20] + list(drawn_set(25, 80)):
            views = slow_views(rows)
            coarsest = coarsest_view(Merger(rows))
            self.assertIn(coarsest, views)
            self.assertEqual([view for view in views if max(view) <= max(coarsest)], [coarsest])
            for view in views:
                for one, other in product(range(len(rows)), repeat=2):
                    self.assertTrue(together(coarsest, one, other) or not together(view, one, other))

    def test_finest_view(self):
        drawn = Drawn(26)
        none = 0
        for rows in all_mergers(2) + all_mergers(3)[::40] + list(drawn_set(27, 60)):
            views = slow_views(rows)
            for many in (0, 1, 1, 2):
                pairs = [drawn.queue(len(rows), 2) for _ in range(many)]
                fit = [view for view in views if all(together(view, *pair) for pair in pairs)]
                found = finest_view(Merger(rows), [list(pair) for pair in pairs])
                if not fit:
                    none += 1
                    self.assertIsNone(found)
                    continue
                most = max(max(view) for view in fit)
                self.assertEqual([view for view in fit if max(view) == most], [found])
        self.assertGreater(none, 20)

    def test_finest_view_of_no_pairs_and_of_like_ones(self):
        merger = Merger([(1, 2, None), (2, None, None), (None, None, None)])
        self.assertEqual(finest_view(merger, []), (0, 1, 2))
        self.assertEqual(finest_view(merger, ((1, 1), [0, 0])), (0, 1, 2))
        self.assertEqual(finest_view(pairs=((1, 0),), merger=merger), None)

    def test_pairs_refused(self):
        merger = Merger([(None,) * 3] * 3)
        bad = [[(0, 1), (1, 3)], [(0, 1), (1,)], ((0, 1, 2),), [(0, True)], [(0, -1)], [(0, 1), "01"], [(0, 1), None],
               [[0, HUGE]], [(0, [1])], {(0, 1): 1}, (0, 1), [merger], [(merger, 0)]]
        for value in any_values() + bad:
            fits = is_list(value) and all(is_list(pair) and len(pair) == 2 for pair in value)
            if fits and all(is_below(command, 3) for pair in value for command in pair):
                finest_view(merger, value)
            else:
                self.raises(Refused, value, finest_view, merger, value)

    def test_twelve_commands(self):
        none = Merger([(None,) * 12] * 12)
        self.assertEqual(coarsest_view(none), (0,) * 12)
        self.assertEqual(finest_view(none, [(3, 11), (11, 4)]), (0, 1, 2, 3, 3, 4, 5, 6, 7, 8, 9, 3))
        sums = Merger([[a + b + 1 if a + b < 11 else None for b in range(12)] for a in range(12)])
        self.assertEqual(coarsest_view(sums), tuple(range(12)))
        self.assertIsNone(finest_view(sums, [(3, 4)]))


if __name__ == "__main__":
    unittest.main()
