"""Stories: two ways of one queue that show that the order matters."""

from foursfold.checks import is_row
from foursfold.courts import single_three, uneven_four
from foursfold.errors import BadQueue, BadWay, Refused
from foursfold.mergers import is_folded
from foursfold.queues import way_end
from foursfold.stretches import fewest_way, most_way

STORY_LIMIT = 40


def uneven_story(merger):
    """None if a merger is even, else some story that it is not."""
    found = uneven_four(merger)
    if found is None:
        return None
    four = found[1]
    return "uneven", four, most_way(merger, four), fewest_way(merger, four)


def single_story(merger):
    """None if each queue has one folded queue, else some story of two."""
    three = single_three(merger)
    if three is None:
        return None
    return "two", three, (0,), (1,)


def story_holds(merger, value):
    """Whether a value is a story of two unlike lengths."""
    return _uneven_ends(merger, value) is not None


def two_holds(merger, value):
    """Whether a value is a story of two unlike folded queues."""
    return _two_ends(merger, value) is not None


def story_ends(merger, value):
    """Both folded queues of a story that holds; Refused for another value."""
    ends = _uneven_ends(merger, value)
    if ends is None:
        ends = _two_ends(merger, value)
    if ends is None:
        raise Refused(value)
    return ends


def _uneven_ends(merger, value):
    """Both folded queues, which are not equally long, of a value, or None."""
    ends = _told_ends(merger, value, "uneven")
    if ends is None or len(ends[0]) == len(ends[1]):
        return None
    return ends


def _two_ends(merger, value):
    """Both folded queues, which are unlike, of a value, or None."""
    ends = _told_ends(merger, value, "two")
    if ends is None or ends[0] == ends[1]:
        return None
    return ends


def _told_ends(merger, value, word):
    """Both folded queues of a value that begins with a word, or None."""
    if not is_row(value, 4, 4):
        return None
    told, queue, way, other = value
    if told != word or not is_row(queue, 0, STORY_LIMIT):
        return None
    one_end = _folded_end(merger, queue, way)
    other_end = _folded_end(merger, queue, other)
    if one_end is None or other_end is None:
        return None
    return one_end, other_end


def _folded_end(merger, queue, way):
    """The folded queue to which any value leads as a way, or None."""
    try:
        end = way_end(merger, queue, way)
    except (BadQueue, BadWay):
        return None
    return end if is_folded(merger, end) else None
