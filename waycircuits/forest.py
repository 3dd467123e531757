"""Splits along one ORDER, no two of them alike, in which DIAGRAMS are made and joined ([62], [63]).

Splits are by ranks, each behind those that it leads to; two ranks are unlike just where other ROWS MEET them.
"""

from waycircuits.nodes import reached
from waycircuits.ranks import FALSE, FIRST, TRUE, side_of


class Forest:
    """Splits by ranks, triples (place in the ORDER, low, high); the two truths stand behind all places."""

    def __init__(self, order):
        self.order = order
        self.places = {name: at for at, name in enumerate(order)}
        self.splits = [(len(order), FALSE, FALSE), (len(order), TRUE, TRUE)]
        self.ranks = {}
        self.known = ({}, {})

    def made(self, place, low, high):
        """The rank of the split of these, which are behind the place."""
        if low == high:
            return low
        split = (place, low, high)
        if split not in self.ranks:
            self.ranks[split] = len(self.splits)
            self.splits.append(split)
        return self.ranks[split]

    def combined(self, ending, one, other):
        """The rank of the ROWS that MEET both, where ending is FALSE, those that MEET one or both, where it is TRUE.

        A list of pairs that wait stands in the place of calls within calls.
        """
        known = self.known[ending]
        waiting = [(one, other)]
        while waiting:
            pair = waiting[-1]
            rank = known.get(pair, combined_at_once(ending, pair))
            if rank is None:
                place, low, high = self.sides(pair)
                waiting.extend([side for side in (low, high) if side not in known])
                if waiting[-1] == pair:
                    rank = self.made(place, known[low], known[high])
            if rank is not None:
                known[pair] = rank
                waiting.pop()
        return known[(one, other)]

    def sides(self, pair):
        """The place of the first name that one of the pair hangs on, and both pairs behind it is False, is True."""
        first, second = [self.splits[rank] for rank in pair]
        place = min(first[0], second[0])
        lows = [split[1] if split[0] == place else rank for split, rank in zip((first, second), pair)]
        highs = [split[2] if split[0] == place else rank for split, rank in zip((first, second), pair)]
        return (place, tuple(lows), tuple(highs))

    def chosen(self, name, low, high):
        """The rank of the ROWS that MEET low where the name is False in them, high where it is True."""
        place = self.places[name]
        if place < min(self.splits[low][0], self.splits[high][0]):
            return self.made(place, low, high)
        below = self.combined(FALSE, self.made(place, TRUE, FALSE), low)
        return self.combined(TRUE, below, self.combined(FALSE, self.made(place, FALSE, TRUE), high))

    def root_of(self, nodes):
        """The rank of the ROWS that MEET the ROOT of these NODES, which need not be WELL BUILT."""
        ranks = {}
        for number in reached(nodes):
            ranks[number] = self.node_rank(nodes[number], ranks)
        return ranks[len(nodes) - 1]

    def node_rank(self, node, ranks):
        """The rank of a NODE, where those are told of the NODES that it is made of."""
        kind = node[0]
        if kind == "true" or kind == "false":
            return TRUE if kind == "true" else FALSE
        if kind == "literal":
            return self.made(self.places[node[1]], int(not node[2]), int(node[2]))
        if kind == "split":
            return self.chosen(node[1], ranks[node[2]], ranks[node[3]])
        ending = FALSE if kind == "and" else TRUE
        rank = TRUE - ending
        for inner in node[1]:
            rank = self.combined(ending, rank, ranks[inner])
        return rank

    def told(self, root):
        """The REDUCED DIAGRAM whose ROOT has this rank: its splits, from those of the last place on, get new ranks."""
        if root < FIRST:
            return (self.order, side_of(root))
        levels = self.levels_under(root)
        ranks = {FALSE: FALSE, TRUE: TRUE}
        told = []
        for place in sorted(levels, reverse=True):
            found = [(ranks[low], ranks[high], rank) for rank, low, high in levels[place]]
            for low, high, rank in sorted(found):
                ranks[rank] = len(told) + FIRST
                told.append((self.order[place], side_of(low), side_of(high)))
        return (self.order, tuple(told))

    def levels_under(self, root):
        """Of each place the triples (rank, low, high) of the splits that the root comes to, itself too: a dict."""
        found = {root: True}
        levels = {}
        for rank in reversed(range(FIRST, root + 1)):
            if rank in found:
                place, low, high = self.splits[rank]
                found.update({low: True, high: True})
                levels.setdefault(place, []).append((rank, low, high))
        return levels


def combined_at_once(ending, pair):
    """The rank of both combined where one of them tells it, else None: so the ending ends all, its other turns none."""
    one, other = pair
    if ending in pair:
        return ending
    if one == TRUE - ending or one == other:
        return other
    return one if other == TRUE - ending else None
