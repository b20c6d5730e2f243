"""S1: the parts of graphs, and shortest ways in them."""

import unittest
from itertools import product

from things import Numbers
from wishkeep.parts import parts_of, shortest_way


def reached_from(graph, begin):
    """All numbers to which moves, none, one or more, lead."""
    found = {begin}
    waiting = [begin]
    while waiting:
        for other in graph[waiting.pop()]:
            if other not in found:
                found.add(other)
                waiting.append(other)
    return found


def plain_ways(graph, begin, many):
    """All ways of so many moves, rising."""
    ways = [[begin]]
    for _ in range(many):
        ways = [way + [other] for way in ways for other in sorted(set(graph[way[-1]]))]
    return ways


def plain_way(graph, begin, end):
    """A shortest way, of several the least."""
    for many in range(len(graph)):
        found = [way for way in plain_ways(graph, begin, many) if way[-1] == end]
        if found:
            return min(found)
    return None


def some_graph(numbers, many, moves):
    """A graph of so many numbers, at most so many moves from each."""
    return [[numbers.below(many) for _ in range(numbers.below(moves + 1))] for _ in range(many)]


class Parts(unittest.TestCase):
    def check(self, graph, many=None):
        """Checks the parts of a graph by what is reached from each number."""
        kept = [list(found) for found in graph]
        parts = parts_of(graph)
        self.assertEqual(graph, kept)
        self.assertEqual(parts, parts_of(kept))
        self.assertIsInstance(parts, list)
        self.assertEqual({type(part) for part in parts} - {list}, set())
        self.assertEqual(sorted(number for part in parts for number in part), list(range(len(graph))))
        reached = [reached_from(graph, number) for number in range(len(graph))]
        ahead = set()
        for part in parts:
            first = part[0]
            self.assertEqual(part, [other for other in range(len(graph)) if other in reached[first]
                                    and first in reached[other]])
            ahead |= set(part)
            self.assertLessEqual(reached[first], ahead)
        if many is not None:
            self.assertEqual(len(parts), many)
        return parts

    def test_of_no_number_and_of_one(self):
        self.assertEqual(self.check([]), [])
        self.assertEqual(self.check([[]]), [[0]])
        self.assertEqual(self.check([[0]]), [[0]])
        self.assertEqual(self.check([[0, 0, 0]]), [[0]])

    def test_small_ones(self):
        self.assertEqual(self.check([[1], []]), [[1], [0]])
        self.assertEqual(self.check([[], [0]]), [[0], [1]])
        self.assertEqual(self.check([[1], [0]]), [[0, 1]])
        self.assertEqual(self.check([[2, 1], [2, 2], [1]]), [[1, 2], [0]])
        self.assertEqual(self.check([[1], [2], [3], [1]]), [[1, 2, 3], [0]])
        self.assertEqual(self.check([[1], [2, 0], [3], []]), [[3], [2], [0, 1]])
        self.check([[3], [3], [3], [4], [5], [3]], 4)

    def test_no_moves(self):
        self.check([[] for _ in range(7)], 7)
        self.check([[number] for number in range(7)], 7)

    def test_all_in_one_part(self):
        self.assertEqual(self.check([[0, 1, 2, 3]] * 4), [[0, 1, 2, 3]])
        self.assertEqual(self.check([[3], [0], [1], [2]]), [[0, 1, 2, 3]])
        self.assertEqual(self.check([[1, 2], [0], [0]]), [[0, 1, 2]])
        # Two rings with one number of both.
        self.assertEqual(self.check([[1], [2], [0, 3], [4], [2]]), [[0, 1, 2, 3, 4]])

    def test_all_graphs_of_three_numbers(self):
        choices = [[other for other in range(3) if bits >> other & 1] for bits in range(8)]
        for graph in product(choices, repeat=3):
            self.check(list(graph))

    def test_some(self):
        numbers = Numbers(110)
        sizes = set()
        for _ in range(600):
            graph = some_graph(numbers, 1 + numbers.below(12), 1 + numbers.below(4))
            sizes |= {len(part) for part in self.check(graph)}
        self.assertLessEqual(set(range(1, 8)), sizes)

    def test_long_rows_and_rings(self):
        many = 5000
        row = [[number + 1] for number in range(many - 1)] + [[]]
        self.assertEqual(parts_of(row), [[number] for number in reversed(range(many))])
        back = [[]] + [[number - 1] for number in range(1, many)]
        self.assertEqual(parts_of(back), [[number] for number in range(many)])
        ring = [[(number + 1) % many] for number in range(many)]
        self.assertEqual(parts_of(ring), [list(range(many))])
        both = [[max(number - 1, 0), min(number + 1, many - 1)] for number in range(many)]
        self.assertEqual(parts_of(both), [list(range(many))])
        # A ring, from which a row leads to another ring.
        graph = [[(number + 1) % 1500] for number in range(1500)]
        graph[700].append(1500)
        graph += [[number + 1] for number in range(1500, 3000)]
        graph += [[number + 1 if number < 4499 else 3000] for number in range(3000, 4500)]
        expected = [list(range(3000, 4500))] + [[number] for number in range(2999, 1499, -1)] + [list(range(1500))]
        self.assertEqual(parts_of(graph), expected)


class Ways(unittest.TestCase):
    def check(self, graph, begin, end, way):
        kept = [list(found) for found in graph]
        told = shortest_way(graph, begin, end)
        self.assertEqual(told, way)
        self.assertEqual(graph, kept)
        self.assertEqual(shortest_way(graph, begin, end), way)
        if way is not None:
            self.assertIsInstance(told, list)

    def test_to_itself(self):
        for graph in ([[]], [[0]], [[0, 0]]):
            self.check(graph, 0, 0, [0])
        self.check([[1], [0]], 1, 1, [1])

    def test_without_any(self):
        self.check([[], []], 0, 1, None)
        self.check([[0], [0]], 0, 1, None)
        self.check([[1], [0], [0, 1]], 0, 2, None)

    def test_small_ones(self):
        self.check([[1], []], 0, 1, [0, 1])
        self.check([[1, 2], [2], []], 0, 2, [0, 2])
        self.check([[3, 2, 1], [4], [4], [4], []], 0, 4, [0, 1, 4])
        self.check([[3, 2], [], [4], [1], [1]], 0, 1, [0, 3, 1])
        # The least way is the least by its first number that is otherwise, not by its last one.
        self.check([[2, 1], [4], [3], [5], [5], []], 0, 5, [0, 1, 4, 5])
        self.check([[2, 1], [3], [4, 3], [5], [5], []], 0, 5, [0, 1, 3, 5])
        self.check([[1, 1, 0], [1, 1, 2], [0]], 0, 2, [0, 1, 2])

    def test_some(self):
        numbers = Numbers(111)
        long = 0
        for _ in range(500):
            many = 1 + numbers.below(10)
            graph = [[numbers.below(many), numbers.below(many)] for _ in range(many)]
            begin, end = numbers.below(many), numbers.below(many)
            way = plain_way(graph, begin, end)
            self.check(graph, begin, end, way)
            long += way is not None and len(way) > 3
        self.assertGreater(long, 20)

    def test_long_ones(self):
        many = 5000
        self.check([[number + 1] for number in range(many - 1)] + [[]], 0, many - 1, list(range(many)))
        ring = [[(number + 1) % many] for number in range(many)]
        self.check(ring, 1, 0, list(range(1, many)) + [0])
        both = [[number + 1, number - 1] for number in range(1, many - 1)]
        self.check([[1]] + both + [[many - 2]], many - 1, 0, list(reversed(range(many))))


class Stays(unittest.TestCase):
    def test_what_is_told_is_the_askers_own(self):
        graph = [[1], [0], [2]]
        parts = parts_of(graph)
        parts[0].append(5)
        parts.append([])
        self.assertEqual(graph, [[1], [0], [2]])
        self.assertEqual(parts_of(graph), [[0, 1], [2]])
        way = shortest_way(graph, 0, 1)
        way.append(2)
        self.assertEqual(graph, [[1], [0], [2]])
        self.assertEqual(shortest_way(graph, 0, 1), [0, 1])


if __name__ == "__main__":
    unittest.main()
