"""A desk: a live queue that is led by lines."""

from foursfold.courts import merger_word
from foursfold.errors import BadText, FoldError, NoCommand
from foursfold.folding import plain_fold
from foursfold.heads import head_depth, safe_number
from foursfold.joinings import put_lengths, struck_lengths
from foursfold.lengths import length_house
from foursfold.live import Live
from foursfold.ownhouse import ring_paper
from foursfold.texts import read_merger

FIGURES = "0123456789"
FIGURE_LIMIT = 9


def _put(live, command):
    """How many are left with a command more, last."""
    return str(live.put(command))


def _amid(live, at, command):
    """How many are left with a command more, amid."""
    return str(live.put_amid(at, command))


def _change(live, at, command):
    """How many are left with a command in the place of another one."""
    return str(live.change_amid(at, command))


def _strike(live, at):
    """How many are left with a command less."""
    return str(live.strike_amid(at))


def _keep(live):
    """How many are left if they are all there is."""
    return str(live.fold_all())


def _undo(live):
    """How many are left without the last edit, if there was one."""
    return str(live.left()) if live.undo() else "nothing"


def _redo(live):
    """How many are left with an edit that was taken back, if there was one."""
    return str(live.left()) if live.redo() else "nothing"


def _left(live):
    """How many are left."""
    return str(live.left())


def _queue(live):
    """The queue."""
    return _row_text(live.queue)


def _fold(live):
    """What is left of the queue."""
    return _row_text(plain_fold(live.merger, live.queue))


def _struck(live):
    """How many are left without each command."""
    return _row_text(struck_lengths(live.merger, live.queue))


def _where(live, command):
    """How many are left with a command more at each place."""
    return _row_text(put_lengths(live.merger, live.queue, command))


def _ring(live):
    """The least of the longest folded queues, if there is no ring."""
    word, commands = ring_paper(live.merger)
    return word if word == "ring" else _row_text(commands)


def _safe(live):
    """How many of the commands that are left are safe."""
    return str(safe_number(live.merger, plain_fold(live.merger, live.queue)))


def _word(live):
    """The word for the merger."""
    return merger_word(live.merger)


def _depth(live):
    """Behind how many commands heads are safe."""
    depth = head_depth(live.merger)
    return "none" if depth is None else str(depth)


def _notes(live):
    """How many notes tell of all lengths."""
    house = length_house(live.merger)
    return "none" if house is None else str(len(house[2]))


# By how many numbers come behind the word.
ALONE = {
    "keep": _keep, "undo": _undo, "redo": _redo, "left": _left, "queue": _queue, "fold": _fold, "struck": _struck,
    "ring": _ring, "safe": _safe, "word": _word, "depth": _depth, "notes": _notes,
}
WITH_ONE = {"put": _put, "strike": _strike, "where": _where}
WITH_TWO = {"amid": _amid, "change": _change}


class Desk:
    """A live queue that is led by lines."""

    def __init__(self, text):
        self.live = Live(read_merger(text))

    def say(self, line):
        """What is told of a line; BadText for any value that is none."""
        if not isinstance(line, str):
            raise BadText(0)
        words = line.split(" ")
        if not _has_form(words):
            raise BadText(0)
        try:
            return _answer_to(self.live, words[0], [int(word) for word in words[1:]])
        except (FoldError, NoCommand):
            return "refused"


def _has_form(words):
    """Whether some words are a line."""
    if not all([_is_number_word(word) for word in words[1:]]):
        return False
    if len(words) == 1:
        return words[0] in ALONE
    if len(words) == 2:
        return words[0] in WITH_ONE
    return len(words) == 3 and words[0] in WITH_TWO


def _is_number_word(word):
    """Whether a word is a number of few figures, without a zero ahead."""
    if not 1 <= len(word) <= FIGURE_LIMIT or not all([sign in FIGURES for sign in word]):
        return False
    return word == "0" or word[0] != "0"


def _answer_to(live, word, numbers):
    """What is told of the word and the numbers of a line."""
    if len(numbers) == 0:
        answer = ALONE[word]
        return answer(live)
    if len(numbers) == 1:
        answer = WITH_ONE[word]
        return answer(live, numbers[0])
    answer = WITH_TWO[word]
    return answer(live, numbers[0], numbers[1])


def _row_text(numbers):
    """Several numbers as a text."""
    return "-" if len(numbers) == 0 else " ".join([str(number) for number in numbers])
