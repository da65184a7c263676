"""The classes of folded queues of an even merger, and the ways through them."""

from foursfold.errors import TooGreat
from foursfold.handing import over_table


class EndSearch:
    """A search for the ends of one class that is not done yet."""

    def __init__(self, end):
        self.found = [end]
        self.seen = {end: True}
        self.at = 0

    def reach(self, end):
        """Note an end, unless it is known."""
        if end not in self.seen:
            self.seen[end] = True
            self.found.append(end)


class Cuts:
    """Classes, numbered as they are found; number 0 is the empty queue's.

    By class its ends are told: (class of all but the last command, last
    command) for each of its queues. A hand-over at the last place leads from
    end to end; any other one stays in the class ahead. So classes are told by
    classes of one command less. All that are found are cuts of the class that
    is asked for: TooGreat is raised just if it has too many.
    """

    def __init__(self, merger, most):
        self.overs = over_table(merger)
        self.most = most
        self.ends = [()]
        # The same, by last command: the classes ahead of it.
        self.lasts = [{}]
        self.classes = {}

    def class_of(self, queue):
        """The number of the class of a folded queue."""
        found = 0
        for command in queue:
            self._find((found, command))
            found = self.classes[(found, command)]
        return found

    def _find(self, end):
        """Find the class that has an end."""
        # Queues are long: what is to be found first waits in a list.
        waiting = [EndSearch(end)]
        while len(waiting) > 0:
            search = waiting[-1]
            missing = [] if search.found[0] in self.classes else self._search_on(search)
            if len(missing) == 0:
                self._keep(waiting.pop().found)
            waiting.extend([EndSearch(needed) for needed in missing])

    def _search_on(self, search):
        """Go on until all ends are found, or some that are needed are unknown."""
        while search.at < len(search.found):
            missing = self._reach_from(search, search.found[search.at])
            if len(missing) > 0:
                return missing
            search.at += 1
        return []

    def _reach_from(self, search, end):
        """Reach what hand-overs make of an end; the unknown ends that it takes."""
        ahead, command = end
        missing = []
        for last, befores in self.lasts[ahead].items():
            for one, other in self.overs.get((last, command), ()):
                for before in befores:
                    if (before, one) in self.classes:
                        search.reach((self.classes[(before, one)], other))
                    else:
                        missing.append((before, one))
        return missing

    def _keep(self, ends):
        """Number a class of which all ends are found, unless it was meanwhile."""
        if ends[0] in self.classes:
            return
        if len(self.ends) == self.most:
            raise TooGreat(self.most)
        lasts = {}
        for end in ends:
            self.classes[end] = len(self.ends)
            lasts.setdefault(end[1], []).append(end[0])
        self.ends.append(tuple(ends))
        self.lasts.append(lasts)


class ClassGraph:
    """The ways through the cuts of a folded queue's class.

    leads tells for each i, by cut at i, the ascending pairs (command, cut
    behind); the cuts at i are numbered by their least queues, ascending.
    """

    def __init__(self, merger, queue, most):
        cuts = Cuts(merger, most)
        layers = _ordered_layers(cuts, cuts.class_of(queue), len(queue))
        self.numbers = tuple([len(layer) for layer in layers])
        self.leads = [_leads_between(cuts, ahead, behind) for ahead, behind in zip(layers, layers[1:])]

    def rest_counts(self):
        """For each i, by cut, how many ways lead on to the end."""
        counts = [[1]]
        for leads in self.leads[::-1]:
            behind = counts[-1]
            counts.append([sum([behind[cut] for _, cut in row]) for row in leads])
        return counts[::-1]


def _ordered_layers(cuts, last, length):
    """For each i, the cuts of a class by their least queues, ascending."""
    layers = [[last]]
    for _ in range(length):
        ahead = {before: True for found in layers[-1] for before, _ in cuts.ends[found]}
        layers.append(list(ahead))
    ordered = [[0]]
    for layer in layers[::-1][1:]:
        order = {found: number for number, found in enumerate(ordered[-1])}
        # No two have the same least queue: it is in one class alone.
        least = [min([(order[before], command) for before, command in cuts.ends[found]]) for found in layer]
        ordered.append([found for _, found in sorted(list(zip(least, layer)))])
    return ordered


def _leads_between(cuts, ahead, behind):
    """By cut of one layer, the ascending pairs (command, cut of the next)."""
    order = {found: number for number, found in enumerate(ahead)}
    leads = [[] for _ in ahead]
    for number, found in enumerate(behind):
        for before, command in cuts.ends[found]:
            leads[order[before]].append((command, number))
    return [sorted(row) for row in leads]
