"""By how much the folded length of a queue changes when more comes."""

from foursfold.courts import need_even
from foursfold.errors import Refused
from foursfold.heads import head_depth
from foursfold.mergers import check_command, check_queue
from foursfold.notes import Notes, parting_word


def _notes_of(merger, most):
    """The notes of an even merger, or None if there is no depth."""
    depth = head_depth(merger)
    return None if depth is None else Notes(merger, depth, most)


def _wanted_notes(merger, most):
    """The notes of an even merger; Refused if there is no depth."""
    notes = _notes_of(merger, most)
    if notes is None:
        raise Refused(merger)
    return notes


def _by_command(rows):
    """What is told by note, by command, told by command, by note."""
    return tuple([tuple(column) for column in zip(*rows)])


def length_house(merger, *, most=5000):
    """(tables, changes, queues) of the notes, None if there is no depth."""
    notes = _notes_of(need_even(merger), most)
    if notes is None:
        return None
    return _by_command(notes.nexts), _by_command(notes.changes), notes.queues


class LengthDesk:
    """Tells the folded length of all that came, and keeps no more than a note."""

    def __init__(self, merger, *, most=5000):
        self._notes = _wanted_notes(need_even(merger), most)
        self._merger = merger
        self.note = 0
        self.length = 0

    def put(self, command):
        """Note one command more; the length then."""
        check_command(self._merger, command)
        self.length += self._notes.changes[self.note][command]
        self.note = self._notes.nexts[self.note][command]
        return self.length


def parting_queue(merger, one, other, *, most=5000):
    """The least of the shortest queues behind which lengths change unlike, or None."""
    need_even(merger)
    ahead = check_queue(merger, one)
    behind = check_queue(merger, other)
    notes = _wanted_notes(merger, most)
    first = _note_behind(notes, ahead)
    last = _note_behind(notes, behind)
    return None if first == last else parting_word(notes.nexts, notes.changes, first, last)


def _note_behind(notes, queue):
    """The note of a checked queue."""
    note = 0
    for command in queue:
        note = notes.nexts[note][command]
    return note
