"""The examples of the document, word for word."""

import doctest
import unittest
from pathlib import Path

README = Path(__file__).resolve().parent.parent / "README.md"

CHAPTER_1 = """
    >>> from foursfold.courts import is_even, uneven_four
    >>> from foursfold.mergers import Merger
    >>> sums = Merger([(1, 2, None), (2, None, None), (None, None, None)])
    >>> last = Merger([(0, 1), (0, 1)])
    >>> is_even(last), is_even(sums), uneven_four(sums)
    (True, False, ('middle', (0, 0, 1, 0)))
"""

CHAPTER_3 = """
    >>> from foursfold.machines import done_table, machine_merger
    >>> from foursfold.mergers import Merger, is_folded, mergeable_places, merged, part_merger, three_ends
    >>> from foursfold.texts import merger_text
    >>> from foursfold.views import coarsest_view, finest_view
    >>> turns = machine_merger([(1, 2, 0), (2, 0, 1), (0, 0, 0)])
    >>> turns.rows
    ((1, -1, 2), (-1, 0, 2), (None, None, 2))
    >>> merged(turns, 2, 0), three_ends(turns, 0, 1, 0), mergeable_places(turns, (2, 0, 0, 1)), is_folded(turns, (2, 1))
    (None, (0, 0), (1, 2), True)
    >>> done_table([(1, 2, 0), (2, 0, 1), (0, 0, 0)], (2, 0)), part_merger(turns, (0, 2)).rows
    ((1, 1, 1), ((None, 1), (None, 1)))
    >>> coarsest_view(turns), coarsest_view(Merger([(0, 1), (0, 1)])), finest_view(turns, [(0, 1)])
    ((0, 1, 2), (0, 0), None)
    >>> merger_text(turns)
    'merger 3\\n1 x 2\\nx 0 2\\n- - 2'
"""

CHAPTER_4 = """
    >>> from foursfold.folding import folded_queues, losing_four, plain_fold, plain_way
    >>> from foursfold.machines import machine_merger
    >>> from foursfold.mergers import Merger
    >>> from foursfold.queues import fold_at, way_end
    >>> from foursfold.stretches import comes_to, fewest_left, most_left, one_way
    >>> turns = machine_merger([(1, 2, 0), (2, 0, 1), (0, 0, 0)])
    >>> plain_fold(turns, (2, 0, 0, 1)), plain_way(turns, (2, 0, 0, 1)), fold_at(turns, (2, 0, 0, 1), 2)
    ((2, 0), (1, 1), (2, 0))
    >>> comes_to(turns, (0, 1, 1, 2), 0, 3), one_way(turns, (0, 1), -1), one_way(turns, (2, 0), 1)
    ((1,), (0,), None)
    >>> none = (None,) * 6
    >>> hurried = Merger([(None, 4) + (None,) * 4, (None, None, 5) + (None,) * 3, none, none, none, \
(None, None, None, 3, None, None)])
    >>> losing_four(hurried), folded_queues(hurried, (0, 1, 2, 3)), plain_way(hurried, (0, 1, 2, 3)), \
way_end(hurried, (0, 1, 2, 3), [1, 1])
    ((0, 1, 2, 3), ((0, 3), (4, 2, 3)), (0,), (0, 3))
    >>> fewest_left(hurried, (0, 1, 2, 3, 3)), most_left(hurried, (0, 1, 2, 3, 3)), losing_four(turns)
    (3, 4, None)
    >>> told = {(0, 1): 5, (1, 2): 6, (2, 3): 7, (3, 4): 8, (5, 7): 9, (9, 4): 0, (6, 8): 10, (0, 10): 1}
    >>> comes_to(Merger([[told.get((one, other)) for other in range(11)] for one in range(11)]), (0, 1, 2, 3, 4), 0, 5)
    (0, 1)
"""

CHAPTER_5 = """
    >>> from foursfold.courts import four_kind, four_numbers, hand_triples, is_even, merger_word, uneven_four
    >>> from foursfold.mergers import Merger
    >>> from foursfold.stories import story_ends
    >>> none = None
    >>> sums = Merger([[1, 2, none], [2, none, none], [none, none, none]])
    >>> hand_triples(sums), uneven_four(sums), four_numbers(sums), merger_word(sums)
    (((0, 0, 1), (0, 1, 0), (1, 0, 0), (1, 0, 1)), ('middle', (0, 0, 1, 0)), (5, 0, 0), 'uneven')
    >>> story_ends(sums, ("uneven", [0, 0, 1, 0], (1,), (0, 1)))
    ((0, 2, 0), (1, 2))
    >>> last = Merger([[0, 1], [0, 1]])
    >>> is_even(last), merger_word(last), four_kind(last, (0, 1, 1, 0))
    (True, 'clear', None)
"""

CHAPTER_6 = """
    >>> from foursfold.classes import class_queue, class_size, cut_numbers, hand_way, is_alike
    >>> from foursfold.handing import hand_overs
    >>> from foursfold.kept import first_kept, kept_group, weights_kept
    >>> from foursfold.mergers import Merger
    >>> rows = [[None] * 9 for command in range(9)]
    >>> rows[1][2], rows[3][4], rows[0][3], rows[2][7] = 5, 5, 6, 8
    >>> merger = Merger(rows)
    >>> hand_overs(merger, (0, 1, 8)), cut_numbers(merger, (0, 1, 8)), class_size(merger, (0, 1, 8))
    (((1, (5, 7)),), (1, 2, 2, 1), 3)
    >>> class_queue(merger, (0, 1, 8), 2), hand_way(merger, (0, 1, 8), (6, 4, 7))
    ((6, 4, 7), ((1, (5, 7)), (0, (6, 4))))
    >>> is_alike(merger, (0, 1, 2, 7), (0, 3, 4, 7)), class_size(merger, (0, 1, 8) * 100)
    (True, 515377520732011331036461129765621272702107522001)
    >>> first_kept(merger), kept_group(merger), weights_kept(merger, [1, 1, 1, 1, 1, 2, 2, 1, 2])
    ((0, 3, 4), (7, ()), None)
"""

CHAPTER_7 = """
    >>> from foursfold.houses import house_fault
    >>> from foursfold.lengths import LengthDesk, length_house, parting_queue
    >>> from foursfold.mergers import Merger
    >>> from foursfold.ownhouse import folded_number, own_house, ring_paper
    >>> merger = Merger([[0, None], [1, 1]])
    >>> ring_paper(merger), folded_number(merger), house_fault(merger, [(1, 1), (0, 0)])
    (('longest', (0, 1)), 4, (1, 0, 0))
    >>> own_house(merger)
    (((1, 1, 2, 3), (2, 3, 2, 3)), ((), (0,), (1,), (0, 1)))
    >>> length_house(merger), parting_queue(merger, (1,), (0,))
    ((((1, 1, 2), (2, 2, 2)), ((1, 0, 0), (1, 1, 0)), ((), (0,), (1,))), (1,))
    >>> desk = LengthDesk(merger)
    >>> [desk.put(command) for command in (0, 0, 1, 0)], desk.note
    ([1, 1, 2, 2], 2)
"""

CHAPTER_8 = """
    >>> from foursfold.heads import head_depth, losing_word, safe_number
    >>> from foursfold.mergers import Merger
    >>> from foursfold.pushes import end_length, most_drop, push_change
    >>> from foursfold.senders import Sender, most_cost, sender_loss, split_cost
    >>> lift = Merger([(None, None, None, 4, None), (None, None, 3, None, None)] + [(None,) * 5] * 3)
    >>> end_length(lift, (0, 1, 2)), push_change(lift, (0, 1), 2), most_drop(lift), head_depth(lift)
    (1, -1, 1, 2)
    >>> safe_number(lift, (0, 1)), safe_number(lift, (0, 1, 1)), safe_number(lift, (0, 4, 1)), losing_word(lift, (0, 1))
    (0, 2, 2, (2,))
    >>> split_cost(lift, (0, 1), (2, 2)), most_cost(lift), sender_loss(lift, (0, 1, 2), 1), sender_loss(lift, (0, 1, 2))
    (2, 2, 1, 0)
    >>> there_and_back = Merger([(None, -1), (-1, None)])
    >>> most_drop(there_and_back), head_depth(there_and_back), most_cost(there_and_back)
    (1, None, None)
    >>> sender = Sender(lift)
    >>> sender.put(0), sender.put(4), sender.put(1), sender.held
    ((), (0, 4), (), (1,))
"""

CHAPTER_9 = """
    >>> from foursfold.machines import machine_merger
    >>> from foursfold.piles import left_numbers, mean_left
    >>> from foursfold.tellings import left_place, left_queue
    >>> turns = machine_merger([(1, 2, 0), (2, 0, 1), (0, 0, 0)])
    >>> left_numbers(turns, 2), mean_left(turns, 2)
    ((2, 5, 2), (1, 1))
    >>> left_queue(turns, 2, 2, 1), left_place(turns, (1, 0))
    ((2, 1), (0, 1))
"""

CHAPTER_10 = """
    >>> from foursfold.barriers import barrier_costs, batches, idle_barriers
    >>> from foursfold.keys import Keys, keyed_merges, left_number, merge_items, plain_items
    >>> from foursfold.mergers import Merger
    >>> cell = Merger([(None, -1), (-1, None)])
    >>> keys = Keys([cell, cell], Merger([(0,)]))
    >>> items = ((0, 0), (1, 1), (0, 1), (None, 0), (0, 1), (1, 0))
    >>> keyed_merges(keys, items), merge_items(keys, items, 0, 2)
    (((0, 2),), ((1, 1), (None, 0), (0, 1), (1, 0)))
    >>> left_number(keys, items), idle_barriers(keys, items), plain_items(keys, items[:3] + items[4:])
    (4, (), ((0, 1),))
    >>> barrier_costs(keys, items[:3]), batches(keys, items[:3] + items[4:], 3)
    ((0, 2, 2, 0), (3, (3,)))
"""

CHAPTER_11 = """
    >>> from foursfold.completing import even_number, evened, greatest_even
    >>> from foursfold.mergers import Merger
    >>> from foursfold.namings import own_renamings, renaming
    >>> none = None
    >>> sums = Merger([[1, 2, none], [2, none, none], [none, none, none]])
    >>> greatest_even(sums), even_number(sums)
    ((0, 2), 5)
    >>> evened([(1, 2, 3, 4, 4), (2, 3, 4, 4, 4)])
    ((0, 1), (1, 1))
    >>> renaming(sums, Merger([[none, none, 1], [none, none, none], [1, none, 0]])), own_renamings(sums)
    ((2, 0, 1), 1)
"""

CHAPTER_12 = """
    >>> from foursfold.courts import uneven_four
    >>> from foursfold.desk import Desk
    >>> from foursfold.joinings import cut_lengths, put_lengths, struck_lengths, tree_fold
    >>> from foursfold.menus import Menu, folded_stream, rows_after, whole_menu
    >>> from foursfold.mergers import Merger
    >>> turns = Merger([(None, -1), (-1, None)])
    >>> tree_fold(turns, [[0, 1], [0, [0]]]), struck_lengths(turns, (0, 1, 0)), cut_lengths(turns, (0, 1))
    ((0, 0), (0, 2, 0), (0, 2, 0))
    >>> uneven_four(Menu(7, [("add", 1), ("add", 2), ("add", 3)]).merger)
    ('middle', (0, 0, 1, 0))
    >>> menu, stream = whole_menu(2), [(1, 4), (3, 1), (1, 4), (3, 5)]
    >>> folded_stream(menu, stream), rows_after(menu, [(1, 0)], stream)
    (((3, (5,)),), ((1, 0),))
    >>> desk = Desk("merger 2\\n- x\\nx -")
    >>> [desk.say(line) for line in ("put 0", "put 1", "amid 1 0", "struck", "depth", "ring", "word")]
    ['1', '0', '1', '0 0 2', 'none', 'ring', 'clear']
"""


class Examples(unittest.TestCase):
    def check(self, text, many):
        test = doctest.DocTestParser().get_doctest(text, {}, "example", None, None)
        told = []
        failed, tried = doctest.DocTestRunner().run(test, out=told.append)
        self.assertEqual((failed, tried), (0, many), "".join(told))

    def test_chapter_1(self):
        self.check(CHAPTER_1, 5)

    def test_chapter_3(self):
        self.check(CHAPTER_3, 10)

    def test_chapter_4(self):
        self.check(CHAPTER_4, 14)

    def test_chapter_5(self):
        self.check(CHAPTER_5, 9)

    def test_chapter_6(self):
        self.check(CHAPTER_6, 11)

    def test_chapter_7(self):
        self.check(CHAPTER_7, 10)

    def test_chapter_8(self):
        self.check(CHAPTER_8, 12)

    def test_chapter_9(self):
        self.check(CHAPTER_9, 6)

    def test_chapter_10(self):
        self.check(CHAPTER_10, 9)

    def test_chapter_11(self):
        self.check(CHAPTER_11, 8)

    def test_chapter_12(self):
        self.check(CHAPTER_12, 12)

    def test_readme(self):
        self.check(README.read_text(encoding="utf-8"), 30)


if __name__ == "__main__":
    unittest.main()
