"""Graphs: their parts, and shortest ways in them."""


def part_off(waiting, number):
    """Takes the numbers from one on off the end of those that wait; they are a part, rising."""
    part = [waiting.pop()]
    while part[-1] != number:
        part.append(waiting.pop())
    return sorted(part)


class Search:
    """
    A search through a graph for its parts.

    A number waits until its part is known; lows tell, of one that is come to, the earliest one, by the order in which
    they are come to, among those that wait of which it is known that moves lead there.
    """

    def __init__(self, graph):
        self.graph = graph
        self.lows = {}
        self.orders = {}
        self.done = {}
        self.waiting = []
        self.parts = []

    def begin_at(self, number):
        """Comes to a number for the first time."""
        self.orders[number] = len(self.orders)
        self.lows[number] = self.orders[number]
        self.waiting.append(number)

    def leave(self, number):
        """Leaves a number from which all moves were gone."""
        if self.lows[number] < self.orders[number]:
            return
        part = part_off(self.waiting, number)
        for inner in part:
            self.done[inner] = True
        self.parts.append(part)

    def draw_down(self, number, other):
        """Takes it that moves lead from a number to where they lead from another one that waits."""
        self.lows[number] = min(self.lows[number], self.lows[other])

    def go_from(self, begin):
        """Goes all moves from a number on, as far as they lead to numbers not come to yet."""
        self.begin_at(begin)
        # No function calls itself here: rows of numbers may be longer than calls may be deep.
        path = [(begin, 0)]
        while len(path) > 0:
            number, at = path.pop()
            if at == len(self.graph[number]):
                self.leave(number)
                if len(path) > 0 and number not in self.done:
                    self.draw_down(path[-1][0], number)
                continue
            path.append((number, at + 1))
            other = self.graph[number][at]
            if other not in self.orders:
                self.begin_at(other)
                path.append((other, 0))
            elif other not in self.done:
                self.draw_down(number, other)


def parts_of(graph):
    """The parts of a graph, each behind all others to which moves lead from it."""
    search = Search(graph)
    for number in range(len(graph)):
        if number not in search.orders:
            search.go_from(number)
    return search.parts


def way_back(ahead, begin, end):
    """The way from one number to another one, where ahead tells what stands ahead of each one on it."""
    way = [end]
    while way[-1] != begin:
        way.append(ahead[way[-1]])
    return way[::-1]


def shortest_way(graph, begin, end):
    """A shortest way from one number to another one, of several the least; None without any."""
    # Numbers are come to in the order of the least shortest ways that lead there: so the first one is the least.
    ahead = {begin: begin}
    found = [begin]
    at = 0
    while at < len(found) and end not in ahead:
        number = found[at]
        for other in sorted(graph[number]):
            if other not in ahead:
                ahead[other] = number
                found.append(other)
        at += 1
    if end not in ahead:
        return None
    return way_back(ahead, begin, end)
