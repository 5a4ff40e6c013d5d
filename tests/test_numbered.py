"""Point 11: new numbers."""

import unittest

from halfmeshes.likeness import numbered
from halfmeshes.meshes import Mesh
from tests import helpers


def lists_of_halves(count, seed):
    """Empty, single, equal, neighbouring and scattered halves."""
    if count == 0:
        return [[]]
    first, second, third = seed % count, (5 * seed + 3) % count, (11 * seed + 7) % count
    return [[], [first], [second, second], [first ^ 1, first], [first, second, third],
            [third, first, third, second], list(range(count)), list(range(count))[::-1]]


class Numbered(unittest.TestCase):
    def check(self, nexts, halves):
        passed = list(halves)
        mesh = Mesh(nexts)
        result = numbered(mesh, passed)
        self.assertIs(type(result), tuple)
        new, places = result
        self.assertIsInstance(new, Mesh)
        self.assertIs(type(places), list)
        self.assertEqual((new.nexts(), places), helpers.plain_numbered(nexts, halves))
        self.assertEqual(passed, halves)
        self.assertIsNot(places, passed)
        self.assertEqual(mesh.nexts(), nexts)
        self.check_pieces(nexts, halves, new)
        again, same = numbered(new, places)
        self.assertEqual((again, same), (new, places))
        self.assertIsNot(same, places)

    def check_pieces(self, nexts, halves, new):
        """Just the pieces with a half of the list are there."""
        pieces = [piece for piece in helpers.plain_pieces(nexts) if set(piece) & set(halves)]
        self.assertEqual(len(new), sum(len(piece) for piece in pieces))
        self.assertEqual(sorted(len(piece) for piece in new.pieces()),
                         sorted(len(piece) for piece in pieces))

    def test_all_small_meshes(self):
        for edges in range(1, 3):
            for nexts in helpers.all_nexts(edges):
                for first in range(2 * edges):
                    self.check(nexts, [first])
                    for second in range(2 * edges):
                        self.check(nexts, [first, second])

    def test_meshes_of_all_sizes(self):
        for edges in range(0, 31, 3):
            for seed in range(3):
                for nexts in (helpers.scattered_nexts(edges, seed),
                              helpers.pieced_nexts(edges, seed)):
                    for halves in lists_of_halves(2 * edges, seed + edges)[:6]:
                        self.check(nexts, halves)

    def test_all_halves_at_once(self):
        for edges in (1, 5, 12):
            nexts = helpers.pieced_nexts(edges, edges)
            for halves in lists_of_halves(2 * edges, edges):
                self.check(nexts, halves)

    def test_by_hand(self):
        new, halves = numbered(mesh=Mesh([2, 3, 1, 0]), halves=[1, 2])
        self.assertEqual((new.nexts(), halves), ([2, 3, 1, 0], [0, 3]))
        # Halves 4, 5 and 2, 3 form two pieces of their own.
        nexts = [1, 0, 2, 3, 5, 4]
        new, halves = numbered(Mesh(nexts), [3, 5, 2])
        self.assertEqual((new.nexts(), halves), ([0, 1, 3, 2], [0, 2, 1]))
        # The half behind number 0 comes before the one behind number 1.
        new, halves = numbered(Mesh([5, 2, 1, 3, 4, 0]), [0])
        self.assertEqual((new.nexts(), halves), ([2, 4, 0, 3, 1, 5], [0]))

    def test_empty_lists(self):
        self.assertEqual(numbered(Mesh([]), []), (Mesh([]), []))
        self.assertEqual(numbered(Mesh([2, 3, 1, 0]), []), (Mesh([]), []))

    def test_equal_halves(self):
        self.assertEqual(numbered(Mesh([0, 1]), [1, 1, 1]), (Mesh([0, 1]), [0, 0, 0]))

    def test_same_for_renamed_meshes(self):
        for edges in range(1, 31, 2):
            nexts = helpers.pieced_nexts(edges, edges + 2)
            names = helpers.some_bijection(edges, edges + 5)
            halves = [edges, 0, 2 * edges - 1]
            moved = Mesh(helpers.moved_nexts(nexts, names))
            self.assertEqual(numbered(Mesh(nexts), halves),
                             numbered(moved, [names[half] for half in halves]))

    def test_thirty_edges(self):
        self.check(helpers.scattered_nexts(30, 3), list(range(59, -1, -1)))
        self.check(helpers.pieced_nexts(30, 3), list(range(59, -1, -1)))


if __name__ == "__main__":
    unittest.main()
