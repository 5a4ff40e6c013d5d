"""Point 13: all small meshes with marked halves, up to renaming."""

import inspect
import unittest
from itertools import product

from halfmeshes.likeness import numbered, small_meshes
from halfmeshes.meshes import Mesh
from tests import helpers

SIZES = [(edges, named) for edges in range(1, 5) for named in range(1, 4) if (edges, named) != (4, 3)]
KNOWN = {
    (1, 1): 2, (1, 2): 4, (1, 3): 8, (2, 1): 10, (2, 2): 44, (2, 3): 184,
    (3, 1): 74, (3, 2): 484, (3, 3): 3032, (4, 1): 706, (4, 2): 6044,
}


def marked(nexts, halves):
    """Whether each piece has a half of the list."""
    return all(set(piece) & set(halves) for piece in helpers.plain_pieces(nexts))


def number_of_lists(sizes, named):
    """How many lists of halves have a half in each piece of these sizes."""
    found = 0
    for places in product(range(len(sizes)), repeat=named):
        if len(set(places)) == len(sizes):
            lists = 1
            for place in places:
                lists *= sizes[place]
            found += lists
    return found


class SmallMeshes(unittest.TestCase):
    def test_each_is_what_numbered_makes_of_it(self):
        for edges, named in SIZES:
            for row in small_meshes(edges, named):
                self.assertIs(type(row), tuple)
                mesh, halves = row
                self.assertIsInstance(mesh, Mesh)
                self.assertIs(type(halves), list)
                self.assertEqual((mesh.edges, len(halves)), (edges, named))
                self.assertTrue(all(half in mesh for half in halves))
                self.assertEqual(numbered(mesh, halves), row)

    def test_no_two_are_alike_and_none_is_missing(self):
        for edges, named in SIZES:
            rows = [(tuple(mesh.nexts()), tuple(halves))
                    for mesh, halves in small_meshes(edges, named)]
            self.assertEqual(len(set(rows)), len(rows))
            self.assertEqual(len(rows), KNOWN[edges, named])

    def test_all_meshes_up_to_two_edges(self):
        for edges in (1, 2):
            for named in (1, 2, 3):
                rows = {(tuple(mesh.nexts()), tuple(halves))
                        for mesh, halves in small_meshes(edges, named)}
                plain = set()
                for nexts in helpers.all_nexts(edges):
                    for halves in product(range(2 * edges), repeat=named):
                        if marked(nexts, halves):
                            links, places = helpers.plain_numbered(nexts, list(halves))
                            plain.add((tuple(links), tuple(places)))
                self.assertEqual(rows, plain)

    def test_known_numbers(self):
        # Each tuple stands for as many meshes as there are ways to name its
        # halves, because a mesh with a mark in each piece has no symmetry.
        ways = {1: 2, 2: 8, 3: 48, 4: 384}
        for edges in range(1, 5):
            sizes = {}
            for nexts in helpers.all_nexts(edges):
                row = tuple(sorted(len(piece) for piece in Mesh(nexts).pieces()))
                sizes[row] = sizes.get(row, 0) + 1
            for named in range(1, 4):
                total = sum(many * number_of_lists(row, named) for row, many in sizes.items())
                if (edges, named) in KNOWN:
                    self.assertEqual(total, ways[edges] * KNOWN[edges, named])

    def test_it_is_a_generator(self):
        self.assertTrue(inspect.isgenerator(small_meshes(edges=2, named=1)))
        self.assertTrue(inspect.isgeneratorfunction(small_meshes))

    def test_changed_lists_and_two_at_once(self):
        expected = [(mesh.nexts(), list(halves)) for mesh, halves in small_meshes(2, 2)]
        found = []
        first, second = small_meshes(2, 2), small_meshes(2, 2)
        for mesh, halves in first:
            other, places = next(second)
            self.assertIsNot(halves, places)
            found.append((mesh.nexts(), list(halves)))
            halves.append(77)
            halves[0] = -1
            mesh.nexts().clear()
            self.assertEqual((other.nexts(), places), found[-1])
        self.assertEqual(sorted(found), sorted(expected))

    def test_lists_are_new(self):
        rows = [halves for _, halves in small_meshes(3, 2)]
        self.assertEqual(len({id(halves) for halves in rows}), len(rows))

    def test_beyond_the_limit(self):
        self.assertEqual(len(list(small_meshes(5, 1))), 8162)
        self.assertEqual(len(list(small_meshes(1, 4))), 16)
        self.assertEqual(list(small_meshes(0, 0)), [(Mesh([]), [])])
        self.assertEqual(list(small_meshes(0, 1)), [])
        self.assertEqual(list(small_meshes(1, 0)), [])


if __name__ == "__main__":
    unittest.main()
