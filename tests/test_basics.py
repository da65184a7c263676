"""Points 1, 2 and 3, and the interface: what holds for everything."""

import importlib
import inspect
import unittest
from copy import deepcopy

from foursfold import (
    barriers, chains, classes, completing, courts, desk, errors, folding, handing, heads, houses, joinings, kept, keys,
    lengths, live, machines, menus, mergers, namings, ownhouse, piles, pushes, queues, senders, stories, stretches,
    tellings, texts, views,
)
from foursfold.mergers import Merger

from evens import LIFT, STEPS, nine
from plainly import Drawn
from samples import CELL, HANDED, HURRIED, SUMS, TURNS, sums_to, two_ends
from wrong import ErrorChecks, alike, any_values, no_lists

INTERFACE = {
    "errors": {
        "FoldError": None, "BadMerger": "at", "Unsound": "three", "Uneven": "four", "BadQueue": "at", "BadWay": "at",
        "BadHouse": "at", "BadText": "at", "Refused": "at", "PaperFault": "at", "TooGreat": "most",
        "NoCommand": "command",
    },
    "mergers": {
        "Merger": "rows", "merged": "merger one other", "three_ends": "merger one middle other",
        "check_queue": "merger value", "mergeable_places": "merger queue", "is_folded": "merger queue",
        "mirror_merger": "merger", "named_merger": "merger names", "part_merger": "merger commands",
        "beside_mergers": "one other",
    },
    "machines": {"check_machine": "value", "done_table": "tables queue", "machine_merger": "tables"},
    "views": {
        "unlike_pairs": "merger value", "check_view": "merger value", "viewed_merger": "merger view",
        "coarsest_view": "merger", "finest_view": "merger pairs",
    },
    "texts": {
        "merger_text": "merger", "read_merger": "text", "queue_text": "merger queue", "read_queue": "merger text",
    },
    "queues": {"fold_at": "merger queue place", "way_end": "merger queue way"},
    "stretches": {
        "comes_to": "merger queue first last", "one_way": "merger queue end", "fewest_left": "merger queue",
        "most_left": "merger queue", "fewest_way": "merger queue", "most_way": "merger queue",
    },
    "folding": {
        "plain_fold": "merger queue", "plain_way": "merger queue", "losing_four": "merger",
        "folded_total": "merger queue", "folded_queues": "merger queue * most",
    },
    "courts": {
        "hand_triples": "merger", "four_kind": "merger queue", "uneven_fours": "merger", "uneven_four": "merger",
        "four_numbers": "merger", "is_even": "merger", "need_even": "merger", "single_three": "merger",
        "is_single": "merger", "bag_queue": "merger", "merger_word": "merger",
    },
    "stories": {
        "uneven_story": "merger", "single_story": "merger", "story_holds": "merger value",
        "two_holds": "merger value", "story_ends": "merger value",
    },
    "handing": {
        "pair_overs": "merger one other", "hand_overs": "merger queue", "handed_over": "merger queue place pair",
    },
    "classes": {
        "cut_numbers": "merger queue * most", "class_graph": "merger queue * most",
        "class_holds": "merger queue value", "class_size": "merger queue * most",
        "class_queue": "merger queue number * most", "class_place": "merger queue other * most",
        "is_alike": "merger one other * most", "hand_way": "merger one other * most",
    },
    "kept": {
        "first_kept": "merger", "last_kept": "merger", "bag_kept": "merger", "weights_kept": "merger weights",
        "kept_basis": "merger", "kept_group": "merger", "same_kept": "merger one other",
    },
    "pushes": {
        "end_length": "merger queue", "push_change": "merger queue command", "most_drop": "merger",
        "deep_drop": "merger number",
    },
    "heads": {
        "safe_number": "merger queue", "losing_word": "merger queue", "head_depth": "merger",
        "unsafe_head": "merger number",
    },
    "senders": {
        "Sender": "merger keep", "sender_loss": "merger queue keep", "split_cost": "merger one other",
        "most_cost": "merger", "dear_split": "merger number",
    },
    "houses": {
        "house_map": "merger tables queue", "house_state": "merger tables state queue",
        "house_fault": "merger tables", "is_house": "merger tables", "house_parting": "merger tables one other",
        "merges_there": "merger tables",
    },
    "ownhouse": {
        "ring_paper": "merger", "ring_holds": "merger value", "folded_number": "merger",
        "own_house": "merger * most", "own_view": "merger tables state * most",
    },
    "lengths": {
        "length_house": "merger * most", "LengthDesk": "merger * most", "parting_queue": "merger one other * most",
    },
    "chains": {"chain_paper": "merger one other * most", "chain_holds": "merger one other value"},
    "piles": {"left_numbers": "merger length", "mean_left": "merger length"},
    "tellings": {"left_queue": "merger length left number", "left_place": "merger queue"},
    "keys": {
        "Keys": "mergers barriers", "check_items": "keys value", "keyed_merges": "keys items",
        "merge_items": "keys items one other", "is_keyed_folded": "keys items", "plain_items": "keys items",
        "left_number": "keys items", "alike_items": "keys one other * most",
    },
    "barriers": {
        "barrier_costs": "keys items", "idle_barriers": "keys items", "batches": "keys items width",
    },
    "completing": {"greatest_even": "merger", "even_number": "merger", "evened": "machine * most"},
    "namings": {"renaming": "one other", "own_renamings": "merger * most"},
    "joinings": {
        "tree_queue": "merger tree", "tree_fold": "merger tree", "struck_lengths": "merger queue",
        "put_lengths": "merger queue command", "cut_lengths": "merger queue",
    },
    "live": {"Live": "merger queue"},
    "menus": {
        "Menu": "values changes", "whole_menu": "values", "row_after": "menu row queue", "folded_stream": "menu stream",
        "rows_after": "menu rows stream",
    },
    "desk": {"Desk": "text"},
}
METHODS = {
    senders.Sender: {"put": "command"},
    lengths.LengthDesk: {"put": "command"},
    live.Live: {
        "undo": "", "redo": "", "within": "work", "put": "command", "put_amid": "at command",
        "change_amid": "at command", "strike_amid": "at", "fold_all": "", "left": "",
    },
    desk.Desk: {"say": "line"},
}
# What is told by default with most.
MOSTS = {
    "folded_queues": 1000, "cut_numbers": 10000, "class_graph": 10000, "class_size": 10000, "class_queue": 10000,
    "class_place": 10000, "is_alike": 10000, "hand_way": 10000, "own_house": 5000, "own_view": 5000,
    "length_house": 5000, "LengthDesk": 5000, "parting_queue": 5000, "chain_paper": 5000,
    "alike_items": 10000, "evened": 20000, "own_renamings": 5000,
}

NONE = None
NINE = Merger(nine())
TABLES = [[0, 0, 2], [2, 2, 2]]
GRAPH = [[[0, 0, 0], [0, 6, 1]], [[0, 1, 0], [0, 5, 1], [1, 4, 1]], [[0, 8, 0], [1, 7, 0]]]
STORY = ["uneven", [0, 0, 1, 0], [1], [0, 1]]
KEYS = keys.Keys([Merger(CELL), Merger(TURNS)], Merger(CELL))
ITEMS = [[0, 0], [1, 1], [0, 1], [None, 0], [0, 1], [1, 0]]
CHANGES = [["put", 0], ["put", 1], ["set", 0], ["set", 1], ["add", 1], ["drop"]]
STREAM = [[1, 4], [3, 1], [1, 4], [3, 5]]

# Calls with lists throughout; {} behind them is what is passed by name alone.
CALLS = (
    (mergers.Merger, [[list(row) for row in TURNS]], {}),
    (mergers.merged, [Merger(TURNS), 0, 1], {}),
    (mergers.three_ends, [Merger(TURNS), 0, 0, 2], {}),
    (mergers.check_queue, [Merger(TURNS), [2, 0, 1]], {}),
    (mergers.mergeable_places, [Merger(TURNS), [2, 0, 0, 1]], {}),
    (mergers.is_folded, [Merger(TURNS), [2, 0]], {}),
    (mergers.mirror_merger, [Merger(TURNS)], {}),
    (mergers.named_merger, [Merger(TURNS), [1, 2, 0]], {}),
    (mergers.part_merger, [Merger(TURNS), [0, 2]], {}),
    (mergers.beside_mergers, [Merger(TURNS), Merger(CELL)], {}),
    (machines.check_machine, [[[1, 2, 0], [2, 0, 1]]], {}),
    (machines.done_table, [[[1, 2, 0], [2, 0, 1]], [0, 0, 1]], {}),
    (machines.machine_merger, [[[1, 2, 0], [2, 0, 1]]], {}),
    (views.unlike_pairs, [Merger(TURNS), [0, 0, 1]], {}),
    (views.check_view, [Merger([[0, 1], [0, 1]]), [0, 0]], {}),
    (views.viewed_merger, [Merger([[0, 1], [0, 1]]), [0, 0]], {}),
    (views.coarsest_view, [Merger(SUMS)], {}),
    (views.finest_view, [Merger([[0, 1], [0, 1]]), [[0, 1], [1, 1]]], {}),
    (texts.merger_text, [Merger(TURNS)], {}),
    (texts.read_merger, ["merger 1\nx"], {}),
    (texts.queue_text, [Merger(TURNS), [0, 2]], {}),
    (texts.read_queue, [Merger(TURNS), "0 2"], {}),
    (queues.fold_at, [Merger(TURNS), [0, 0, 2], 0], {}),
    (queues.way_end, [Merger(TURNS), [0, 0, 2, 0], [0, 0]], {}),
    (stretches.comes_to, [Merger(two_ends()), [0, 1, 2, 3, 4], 0, 5], {}),
    (stretches.one_way, [Merger(two_ends()), [0, 1, 2, 3, 4], 1], {}),
    (stretches.fewest_left, [Merger(SUMS), [0, 0, 1, 0]], {}),
    (stretches.most_left, [Merger(SUMS), [0, 0, 1, 0]], {}),
    (stretches.fewest_way, [Merger(SUMS), [0, 0, 1, 0]], {}),
    (stretches.most_way, [Merger(SUMS), [0, 0, 1, 0]], {}),
    (folding.plain_fold, [Merger(SUMS), [0, 0, 1, 0]], {}),
    (folding.plain_way, [Merger(SUMS), [0, 0, 1, 0]], {}),
    (folding.losing_four, [Merger(HURRIED)], {}),
    (folding.folded_total, [Merger(SUMS), [0, 0, 1, 0]], {}),
    (folding.folded_queues, [Merger(SUMS), [0, 0, 1, 0]], {}),
    (folding.folded_queues, [Merger(SUMS), [0, 0, 1, 0]], {"most": 20}),
    (courts.hand_triples, [Merger(SUMS)], {}),
    (courts.four_kind, [Merger(SUMS), [0, 0, 1, 0]], {}),
    (courts.uneven_fours, [Merger(SUMS)], {}),
    (courts.uneven_four, [Merger(SUMS)], {}),
    (courts.four_numbers, [Merger(SUMS)], {}),
    (courts.is_even, [Merger(SUMS)], {}),
    (courts.need_even, [Merger(HANDED)], {}),
    (courts.single_three, [Merger(HANDED)], {}),
    (courts.is_single, [Merger(HANDED)], {}),
    (courts.bag_queue, [Merger(HANDED)], {}),
    (courts.merger_word, [Merger(HANDED)], {}),
    (stories.uneven_story, [Merger(SUMS)], {}),
    (stories.single_story, [Merger(SUMS)], {}),
    (stories.story_holds, [Merger(SUMS), STORY], {}),
    (stories.two_holds, [Merger(SUMS), ["two"] + STORY[1:]], {}),
    (stories.story_ends, [Merger(SUMS), STORY], {}),
    (handing.pair_overs, [Merger(SUMS), 0, 2], {}),
    (handing.hand_overs, [NINE, [0, 1, 8]], {}),
    (handing.handed_over, [NINE, [0, 1, 8], 1, [5, 7]], {}),
    (classes.cut_numbers, [NINE, [0, 1, 8]], {}),
    (classes.class_graph, [NINE, [0, 1, 8]], {"most": 6}),
    (classes.class_holds, [NINE, [0, 1, 8], ["class", GRAPH]], {}),
    (classes.class_size, [NINE, [0, 1, 8]], {}),
    (classes.class_queue, [NINE, [0, 1, 8], 2], {"most": 20000}),
    (classes.class_place, [NINE, [0, 1, 8], [6, 4, 7]], {}),
    (classes.is_alike, [NINE, [0, 1, 2, 7], [0, 3, 4, 7]], {}),
    (classes.hand_way, [NINE, [0, 1, 8], [6, 4, 7]], {}),
    (kept.first_kept, [NINE], {}),
    (kept.last_kept, [NINE], {}),
    (kept.bag_kept, [NINE], {}),
    (kept.weights_kept, [NINE, [1, 1, 1, 1, 1, 2, 2, 1, 2]], {}),
    (kept.kept_basis, [NINE], {}),
    (kept.kept_group, [NINE], {}),
    (kept.same_kept, [NINE, [0, 1, 8], [6, 4, 7]], {}),
    (pushes.end_length, [Merger(LIFT), [0, 1, 2]], {}),
    (pushes.push_change, [Merger(LIFT), [0, 1], 2], {}),
    (pushes.most_drop, [Merger(LIFT)], {}),
    (pushes.deep_drop, [Merger(LIFT), 1], {}),
    (heads.safe_number, [Merger(LIFT), [0, 4, 1]], {}),
    (heads.losing_word, [Merger(LIFT), [0, 1]], {}),
    (heads.head_depth, [Merger(LIFT)], {}),
    (heads.unsafe_head, [Merger(LIFT), 1], {}),
    (senders.Sender, [Merger(LIFT), 1], {}),
    (senders.sender_loss, [Merger(LIFT), [0, 1, 2], 1], {}),
    (senders.split_cost, [Merger(LIFT), [0, 1], [2, 2]], {}),
    (senders.most_cost, [Merger(LIFT)], {}),
    (senders.dear_split, [Merger(LIFT), 2], {}),
    (houses.house_map, [Merger(STEPS), TABLES, [0, 1]], {}),
    (houses.house_state, [Merger(STEPS), TABLES, 1, [0, 1]], {}),
    (houses.house_fault, [Merger(STEPS), [[1, 1], [0, 0]]], {}),
    (houses.is_house, [Merger(STEPS), TABLES], {}),
    (houses.house_parting, [Merger(STEPS), TABLES, [0], [1, 0]], {}),
    (houses.merges_there, [Merger(STEPS), TABLES], {}),
    (ownhouse.ring_paper, [Merger(LIFT)], {}),
    (ownhouse.ring_holds, [Merger(STEPS), ["longest", [0, 1]]], {}),
    (ownhouse.folded_number, [Merger(STEPS)], {}),
    (ownhouse.own_house, [Merger(STEPS)], {"most": 4}),
    (ownhouse.own_view, [Merger(STEPS), TABLES, 1], {}),
    (lengths.length_house, [Merger(STEPS)], {"most": 20000}),
    (lengths.LengthDesk, [Merger(STEPS)], {}),
    (lengths.parting_queue, [Merger(STEPS), [1], [0]], {}),
    (chains.chain_paper, [NINE, [0, 1, 2, 7], [0, 3, 4, 7]], {}),
    (chains.chain_holds, [NINE, [5], [1, 2], ["chain", [[5], [1, 2]]]], {}),
    (piles.left_numbers, [Merger(TURNS), 3], {}),
    (piles.mean_left, [Merger(TURNS), 3], {}),
    (tellings.left_queue, [Merger(TURNS), 3, 1, 4], {}),
    (tellings.left_place, [Merger(TURNS), [2, 0, 1]], {}),
    (keys.Keys, [[Merger(CELL), Merger(TURNS)], Merger(CELL)], {}),
    (keys.check_items, [KEYS, ITEMS], {}),
    (keys.keyed_merges, [KEYS, ITEMS], {}),
    (keys.merge_items, [KEYS, ITEMS, 0, 2], {}),
    (keys.is_keyed_folded, [KEYS, ITEMS], {}),
    (keys.plain_items, [KEYS, ITEMS], {}),
    (keys.left_number, [KEYS, ITEMS], {}),
    (keys.alike_items, [KEYS, ITEMS, [[1, 1], [None, 0], [0, 1], [1, 0]]], {"most": 5}),
    (barriers.barrier_costs, [KEYS, ITEMS], {}),
    (barriers.idle_barriers, [KEYS, ITEMS], {}),
    (barriers.batches, [KEYS, [[0, 0], [1, 1], [0, 1], [1, 0]], 2], {}),
    (completing.greatest_even, [Merger(SUMS)], {}),
    (completing.even_number, [Merger(SUMS)], {}),
    (completing.evened, [[[1, 2, 3, 4, 4], [2, 3, 4, 4, 4]]], {"most": 100}),
    (namings.renaming, [Merger(TURNS), mergers.named_merger(Merger(TURNS), [1, 2, 0])], {}),
    (namings.own_renamings, [Merger(TURNS)], {"most": 2}),
    (joinings.tree_queue, [Merger(TURNS), [[0, 1], [], [2, [0]]]], {}),
    (joinings.tree_fold, [Merger(TURNS), [[0, 1], [], [2, [0]]]], {}),
    (joinings.struck_lengths, [Merger(TURNS), [0, 1, 2]], {}),
    (joinings.put_lengths, [Merger(TURNS), [0, 1, 2], 1], {}),
    (joinings.cut_lengths, [Merger(TURNS), [0, 1, 2]], {}),
    (live.Live, [Merger(TURNS), [0, 1, 2]], {}),
    (menus.Menu, [2, CHANGES], {}),
    (menus.whole_menu, [2], {}),
    (menus.row_after, [menus.Menu(2, CHANGES), 1, [0, 4]], {}),
    (menus.folded_stream, [menus.Menu(2, CHANGES), STREAM], {}),
    (menus.rows_after, [menus.Menu(2, CHANGES), [[1, 0], [2, 1]], STREAM], {}),
    (desk.Desk, ["merger 2\n- x\nx -"], {}),
)


def defined(module):
    return importlib.import_module("foursfold." + module)


def tupled(value):
    return tuple(tupled(part) for part in value) if isinstance(value, list) else value


def looked_at(value):
    """What can be told of an object of the package, or the value itself."""
    if isinstance(value, Merger):
        return value.commands, value.rows
    if isinstance(value, keys.Keys):
        return tuple([looked_at(merger) for merger in value.mergers]), looked_at(value.barriers)
    if isinstance(value, senders.Sender):
        return looked_at(value.merger), value.keep, value.held, value.sent, value.came
    if isinstance(value, lengths.LengthDesk):
        return value.note, value.length
    if isinstance(value, live.Live):
        return looked_at(value.merger), value.queue
    if isinstance(value, menus.Menu):
        return value.row_values, value.changes, value.tables, looked_at(value.merger)
    if isinstance(value, desk.Desk):
        return looked_at(value.live)
    return value


class Interface(unittest.TestCase):
    def test_everything_is_defined_in_its_file(self):
        for module, names in INTERFACE.items():
            for name in names:
                self.assertEqual(getattr(defined(module), name).__module__, "foursfold." + module)

    def test_parameters(self):
        for module, names in INTERFACE.items():
            for name, told in names.items():
                if told is None:
                    continue
                called = getattr(defined(module), name)
                parameters = list(inspect.signature(called).parameters.values())
                words = told.split()
                self.assertEqual([one.name for one in parameters], [word for word in words if word != "*"], name)
                for one in parameters:
                    behind = "*" in words and words.index(one.name) > words.index("*")
                    self.assertEqual(one.kind == one.KEYWORD_ONLY, behind)
                    if one.name == "most" and module != "errors":
                        self.assertEqual(one.default, MOSTS[name])
                    if one.name in ("keep", "barriers"):
                        self.assertIsNone(one.default)

    def test_every_function_is_called_here(self):
        called = {function for function, _, _ in CALLS}
        for module, names in INTERFACE.items():
            if module != "errors":
                for name in names:
                    self.assertIn(getattr(defined(module), name), called)

    def test_methods_stand_in_their_classes(self):
        for maker, methods in METHODS.items():
            for name, told in methods.items():
                parameters = list(inspect.signature(vars(maker)[name]).parameters)
                self.assertEqual(parameters, ["self"] + told.split())
        for maker in (Merger, keys.Keys):
            self.assertIn("__eq__", vars(maker))

    def test_merger_has_its_attributes(self):
        self.assertEqual(vars(Merger(CELL)), {"commands": 2, "rows": CELL})


class Calls(unittest.TestCase):
    def test_arguments_stay_as_they_are(self):
        for function, args, named in CALLS:
            before = deepcopy(args)
            function(*args, **named)
            self.assertTrue(alike([looked_at(arg) for arg in args], [looked_at(arg) for arg in before]))

    def test_lists_and_tuples_and_names(self):
        for function, args, named in CALLS:
            want = looked_at(function(*args, **named))
            names = [name for name in inspect.signature(function).parameters if name not in ("most",)]
            for passed in (args, tupled(args)):
                self.assertTrue(alike(looked_at(function(*passed, **named)), want), function)
                by_name = dict(zip(reversed(names), reversed(passed)))
                self.assertTrue(alike(looked_at(function(**by_name, **named)), want), function)

    def test_tuples_throughout(self):
        for function, args, named in CALLS:
            self.assertTrue(no_lists(looked_at(function(*args, **named))), function)

    def test_calls_in_between(self):
        wants = [looked_at(function(*args, **named)) for function, args, named in CALLS]
        for at in list(range(len(CALLS)))[::-1] + list(range(len(CALLS))):
            function, args, named = CALLS[at]
            self.assertTrue(alike(looked_at(function(*args, **named)), wants[at]))

    def test_what_is_returned_does_not_hang_on_arguments(self):
        queue, way, rows = [0, 0, 1, 0], [1], [[None, 1], [None, None]]
        merger = Merger(rows)
        checked, end = mergers.check_queue(Merger(SUMS), queue), queues.way_end(Merger(SUMS), queue, way)
        queue.clear()
        way.append(3)
        rows[0][1] = None
        self.assertEqual((checked, end, merger.rows), ((0, 0, 1, 0), (0, 2, 0), ((None, 1), (None, None))))

    def test_whether_is_a_bool(self):
        for value in any_values():
            for function in (stories.story_holds, stories.two_holds):
                self.assertIs(type(function(Merger(SUMS), value)), bool)
            self.assertIs(type(classes.class_holds(NINE, [0, 1, 8], value)), bool)
        for rows in (SUMS, TURNS, CELL, HANDED):
            self.assertIs(type(courts.is_even(Merger(rows))), bool)
            self.assertIs(type(courts.is_single(Merger(rows))), bool)
            self.assertIs(type(mergers.is_folded(Merger(rows), [0, 1])), bool)


class Limits(ErrorChecks, unittest.TestCase):
    def test_queues_of_10000_commands(self):
        queue = Drawn(5).queue(12, 10000)
        for merger in (Merger(sums_to(12)), Merger([(NONE,) * 12] * 12), Merger([tuple(range(12))] * 12)):
            self.assertEqual(mergers.check_queue(merger, list(queue)), queue)
            way = folding.plain_way(merger, queue)
            self.assertEqual(queues.way_end(merger, queue, list(way)), folding.plain_fold(merger, queue))
            self.assertEqual(texts.read_queue(merger, texts.queue_text(merger, queue)), queue)
            for place in mergers.mergeable_places(merger, queue)[:1]:
                self.assertEqual(len(queues.fold_at(merger, queue, place)), 9999)
            self.raises(errors.BadQueue, -1, folding.plain_fold, merger, queue + (0,))

    def test_mergers_of_twelve(self):
        for merger in (Merger(sums_to(12)), Merger([(NONE,) * 12] * 12), Merger([tuple(range(12))] * 12)):
            self.assertEqual(mergers.mirror_merger(mergers.mirror_merger(merger)), merger)
            self.assertEqual(texts.read_merger(texts.merger_text(merger)), merger)
            self.assertEqual(courts.merger_word(merger) == "uneven", not courts.is_even(merger))
            self.assertEqual(stories.uneven_story(merger) is None, courts.is_even(merger))
            folding.losing_four(merger)
            queue = (0, 1, 0, 0, 1, 2, 0, 3, 0, 1, 1, 0)
            self.assertLessEqual(stretches.fewest_left(merger, queue), stretches.most_left(merger, queue))
            self.assertLessEqual(len(folding.folded_queues(merger, queue)), folding.folded_total(merger, queue))


if __name__ == "__main__":
    unittest.main()
