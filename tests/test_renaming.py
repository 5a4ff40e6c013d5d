"""Point 12: renamings."""

import unittest
from itertools import product

from halfmeshes.likeness import renaming
from halfmeshes.meshes import Mesh
from tests import helpers

SINGLE = [0, 1]
TORUS = [2, 3, 1, 0]
SQUARE = [2, 3, 0, 1]


class Renaming(unittest.TestCase):
    def check_found(self, first, second, pairs):
        kept = list(pairs)
        found = renaming(Mesh(first), Mesh(second), pairs)
        self.assertIs(type(found), dict)
        self.assertTrue(helpers.is_renaming(first, second, pairs, found))
        self.assertEqual(pairs, kept)
        found.clear()
        again = renaming(Mesh(first), Mesh(second), pairs)
        self.assertTrue(helpers.is_renaming(first, second, pairs, again))

    def check_none(self, first, second, pairs):
        kept = list(pairs)
        self.assertIsNone(renaming(Mesh(first), Mesh(second), pairs))
        self.assertEqual(pairs, kept)

    def check_all(self, first, second, tables, lists):
        """Compare with the search through all dicts that keep twins."""
        right = [table for table in tables if helpers.is_renaming(first, second, [], table)]
        for pairs in lists:
            if any(all(table[a] == b for a, b in pairs) for table in right):
                self.check_found(first, second, pairs)
            else:
                self.check_none(first, second, pairs)

    def test_all_meshes_with_two_edges(self):
        tables = helpers.bijections(2)
        pairs = list(product(range(4), repeat=2))
        lists = [[]] + [[pair] for pair in pairs]
        for first in helpers.all_nexts(2):
            for second in helpers.all_nexts(2):
                self.check_all(first, second, tables, lists)

    def test_two_pairs(self):
        tables = helpers.bijections(2)
        pairs = list(product(range(4), repeat=2))
        lists = [[one, other] for one in pairs for other in pairs]
        meshes = [[0, 1, 2, 3], [1, 0, 2, 3], SQUARE, TORUS, [1, 0, 3, 2], [2, 1, 0, 3]]
        for first in meshes:
            for second in meshes:
                self.check_all(first, second, tables, lists)

    def test_meshes_with_three_edges(self):
        tables = helpers.bijections(3)
        lists = [[], [(0, 0)], [(1, 4)], [(5, 2), (0, 3)]]
        meshes = helpers.all_nexts(3)
        for first in meshes[::37]:
            for second in meshes[::23]:
                self.check_all(first, second, tables, lists)

    def test_one_edge_and_none(self):
        tables = helpers.bijections(1)
        pairs = list(product(range(2), repeat=2))
        lists = [list(row) for size in range(4) for row in product(pairs, repeat=size)]
        for first in helpers.all_nexts(1):
            for second in helpers.all_nexts(1):
                self.check_all(first, second, tables, lists)
        self.assertEqual(renaming(first=Mesh([]), second=Mesh([]), pairs=[]), {})

    def test_renamed_meshes_of_all_sizes(self):
        for edges in range(31):
            for seed in range(3):
                for nexts in (helpers.scattered_nexts(edges, edges + 31 * seed),
                              helpers.pieced_nexts(edges, edges + 31 * seed)):
                    names = helpers.some_bijection(edges, seed)
                    moved = helpers.moved_nexts(nexts, names)
                    halves = list(range(0, 2 * edges, 5))
                    self.check_found(nexts, nexts, [])
                    self.check_found(nexts, moved, [])
                    self.check_found(nexts, moved, [(half, names[half]) for half in halves])
                    self.check_found(nexts, moved, [(half, names[half]) for half in names])

    def test_exchanged_links(self):
        # An exchange of two next links always changes the number of faces.
        for edges in range(1, 31):
            for seed in range(3):
                nexts = helpers.pieced_nexts(edges, edges + seed)
                names = helpers.some_bijection(edges, seed)
                one, other = edges % (2 * edges), (edges + 1 + 2 * seed) % (2 * edges)
                if one != other:
                    moved = helpers.moved_nexts(nexts, names)
                    moved[one], moved[other] = moved[other], moved[one]
                    self.check_none(nexts, moved, [])
                    self.check_none(moved, nexts, [])
                    self.check_none(nexts, moved, [(0, names[0])])

    def test_meshes_that_look_alike(self):
        # Equal counts, but faces of other lengths.
        self.check_none([0, 2, 1, 4, 3, 5], [0, 2, 4, 3, 1, 5], [])
        # A sphere and a torus have faces of the same lengths.
        self.check_none([2, 5, 4, 1, 0, 3], [2, 3, 4, 5, 0, 1], [])

    def test_mirrored_meshes(self):
        tables = helpers.bijections(3)
        for first in helpers.all_nexts(3)[::5]:
            mirrored = [first.index(half) for half in range(6)]
            self.check_all(first, mirrored, tables, [[], [(0, 0)], [(2, 1)]])

    def test_other_sizes(self):
        for edges in range(1, 31):
            nexts = helpers.pieced_nexts(edges, edges)
            larger = helpers.joined_nexts([nexts, SINGLE])
            self.check_none(nexts, larger, [])
            self.check_none(larger, nexts, [])
            self.check_none(nexts, larger, [(0, 0)])
            self.check_none(larger, nexts, [(0, 0)])
        self.check_none([], SINGLE, [])
        self.check_none(SINGLE, [], [])
        self.check_none(TORUS, SINGLE, [(0, 0)])

    def test_pieces_that_wind_around_smaller_ones(self):
        # All links of the square agree with those of a single edge, twice.
        twice = helpers.joined_nexts([SINGLE, SINGLE])
        for pairs in ([], [(0, 0)], [(1, 1)], [(0, 0), (2, 2)], [(0, 2)], [(0, 0), (2, 0)]):
            self.check_none(SQUARE, twice, pairs)
            self.check_none(twice, SQUARE, [(b, a) for a, b in pairs])
        for count in range(2, 15):
            ring = [(half + 2) % (2 * count) for half in range(2 * count)]
            self.check_none(ring, list(range(2 * count)), [(0, 0)])
            self.check_none(list(range(2 * count)), ring, [(0, 0)])

    def test_many_equal_pieces(self):
        first = helpers.joined_nexts([TORUS] * 5 + [SINGLE] * 10 + [SQUARE] * 5)
        second = helpers.joined_nexts([SQUARE] * 5 + [SINGLE] * 10 + [TORUS] * 5)
        self.check_found(first, second, [])
        self.check_found(first, second, [(0, 44)])
        self.check_found(first, second, [(0, 41), (4, 59)])
        self.check_found(first, second, [(20, 38), (39, 21), (59, 1)])
        self.check_none(first, second, [(0, 41), (4, 43)])
        self.check_none(first, second, [(0, 0)])
        fewer = helpers.joined_nexts([SQUARE] * 6 + [SINGLE] * 10 + [TORUS] * 4)
        self.check_none(first, fewer, [])
        self.check_none(fewer, first, [])

    def test_pairs_that_contradict_each_other(self):
        first = helpers.joined_nexts([TORUS, TORUS, SINGLE])
        self.check_found(first, first, [(0, 4), (4, 0)])
        self.check_found(first, first, [(0, 4), (0, 4), (1, 5)])
        for pairs in ([(0, 0), (0, 1)], [(0, 0), (1, 0)], [(0, 4), (1, 4)], [(0, 0), (4, 0)],
                      [(0, 0), (4, 1)], [(0, 0), (1, 5)], [(0, 4), (2, 2)], [(8, 9), (9, 9)], [(8, 0)],
                      [(8, 8), (9, 8)], [(0, 4), (4, 4)], [(0, 0), (2, 3)]):
            self.check_none(first, first, pairs)
            self.check_none(first, first, pairs[::-1])
            self.check_none(first, first, pairs + [(8, 8)])

    def test_pairs_that_do_not_lie_alike(self):
        for edges in (4, 13, 30):
            nexts = helpers.scattered_nexts(edges, 4)
            right = [half for half in range(2 * edges)
                     if renaming(Mesh(nexts), Mesh(nexts), [(0, half)]) is not None]
            self.assertIn(0, right)
            for half in right:
                self.check_found(nexts, nexts, [(0, half)])
            self.assertIsNone(renaming(Mesh(nexts), Mesh(nexts), [(0, 0), (1, 2)]))


if __name__ == "__main__":
    unittest.main()
