"""What is left of each rest of a queue of an even merger."""

FLOOR = 0


class Rests:
    """What is left of the rests of a queue, folded from the last command on.

    It is held in links, numbers: FLOOR is nothing, each other link a first
    command and the link behind it. starts tells by place the link of the rest
    of the queue, lengths by link how many commands it holds.
    """

    def __init__(self, rows, queue):
        self._rows = rows
        self._firsts = [None]
        self._behinds = [FLOOR]
        self.lengths = [0]
        starts = [FLOOR]
        for command in queue[::-1]:
            starts.append(self.put_ahead(command, starts[-1]))
        self.starts = tuple(starts[::-1])

    def put_ahead(self, command, link):
        """What is left if a command is put ahead of a link."""
        while link != FLOOR:
            end = self._rows[command][self._firsts[link]]
            if end is None:
                break
            link = self._behinds[link]
            if end == -1:
                return link
            command = end
        self._firsts.append(command)
        self._behinds.append(link)
        self.lengths.append(self.lengths[link] + 1)
        return len(self._firsts) - 1

    def length_behind(self, held, link):
        """How many commands are left if a link is put to a folded list.

        Once a command of it stands without a merge, all that come do.
        """
        # So many of the list stand as they were, and perhaps a top above them.
        many = len(held)
        top = None
        while link != FLOOR:
            if top is None and many > 0:
                many -= 1
                top = held[many]
            end = None if top is None else self._rows[top][self._firsts[link]]
            if end is None:
                break
            link = self._behinds[link]
            while end != -1 and many > 0:
                further = self._rows[held[many - 1]][end]
                if further is None:
                    break
                many -= 1
                end = further
            top = None if end == -1 else end
        return many + (0 if top is None else 1) + self.lengths[link]
