"""Points 2, 3, 4, 8 and 9: meshes, their links, rounds, pieces and counts."""

import unittest

from halfmeshes.errors import NotAMesh
from halfmeshes.meshes import Mesh, read_mesh
from tests import helpers


class Anything:
    """No mesh, although it has what a mesh has."""

    edges = 1

    def nexts(self):
        return [1, 0]


class Links(unittest.TestCase):
    def test_every_half(self):
        for nexts in helpers.many_nexts():
            mesh = Mesh(nexts)
            self.assertEqual(mesh.nexts(), nexts)
            self.assertEqual(len(mesh), len(nexts))
            self.assertEqual(mesh.edges, len(nexts) // 2)
            for half in range(len(nexts)):
                self.assertEqual(mesh.after(half), nexts[half])
                self.assertEqual(mesh.before(half), nexts.index(half))
                self.assertEqual(mesh.twin(half), helpers.plain_twin(half))
                self.assertEqual(mesh.turned(half), helpers.plain_turn(nexts, half))

    def test_by_hand(self):
        mesh = Mesh(nexts=[2, 3, 1, 0])
        self.assertEqual([mesh.after(half=half) for half in range(4)], [2, 3, 1, 0])
        self.assertEqual([mesh.before(half=half) for half in range(4)], [3, 2, 0, 1])
        self.assertEqual([mesh.twin(half=half) for half in range(4)], [1, 0, 3, 2])
        self.assertEqual([mesh.turned(half=half) for half in range(4)], [2, 3, 1, 0])
        other = Mesh([2, 1, 4, 5, 0, 3])
        self.assertEqual([other.turned(half) for half in range(6)], [5, 0, 1, 4, 3, 2])

    def test_integers(self):
        mesh = Mesh([2, 3, 1, 0])
        for value in [mesh.edges, len(mesh), mesh.after(1), mesh.before(1), mesh.twin(0),
                      mesh.turned(3), *mesh.counts(), *mesh.nexts()]:
            self.assertIs(type(value), int)

    def test_edges_is_a_property(self):
        self.assertIsInstance(vars(Mesh)["edges"], property)


class Rounds(unittest.TestCase):
    def check_rounds(self, rounds, step, count):
        """Point 9, word by word; it leaves just one list."""
        self.assertEqual(sorted(half for members in rounds for half in members),
                         list(range(count)))
        self.assertEqual([members[0] for members in rounds],
                         sorted(min(members) for members in rounds))
        for members in rounds:
            self.assertEqual(members[0], min(members))
            self.assertEqual([step(half) for half in members], members[1:] + members[:1])

    def test_faces_and_corners(self):
        for nexts in helpers.many_nexts():
            mesh = Mesh(nexts)
            self.check_rounds(mesh.faces(), lambda half: nexts[half], len(nexts))
            turns = [helpers.plain_turn(nexts, half) for half in range(len(nexts))]
            self.check_rounds(mesh.corners(), lambda half: turns[half], len(nexts))

    def test_by_hand(self):
        mesh = Mesh([4, 1, 0, 3, 2, 5])
        self.assertEqual(mesh.faces(), [[0, 4, 2], [1], [3], [5]])
        self.assertEqual(mesh.corners(), [[0, 3, 2, 5, 4, 1]])
        mesh = Mesh([3, 2, 1, 0])
        self.assertEqual(mesh.faces(), [[0, 3], [1, 2]])
        self.assertEqual(mesh.corners(), [[0, 2], [1, 3]])
        self.assertEqual(Mesh([]).faces(), [])
        self.assertEqual(Mesh([]).corners(), [])

    def test_is_one_face_and_is_one_corner(self):
        for nexts in helpers.many_nexts()[::3]:
            mesh = Mesh(nexts)
            faces = {half: face[0] for face in mesh.faces() for half in face}
            corners = {half: corner[0] for corner in mesh.corners() for half in corner}
            for first in range(len(nexts)):
                for second in range(len(nexts)):
                    self.assertIs(mesh.is_one_face(first, second),
                                  faces[first] == faces[second])
                    self.assertIs(mesh.is_one_corner(first, second),
                                  corners[first] == corners[second])

    def test_both_orders_by_name(self):
        mesh = Mesh([0, 1])
        self.assertIs(mesh.is_one_face(first=0, second=1), False)
        self.assertIs(mesh.is_one_face(second=0, first=1), False)
        self.assertIs(mesh.is_one_corner(first=0, second=1), True)
        self.assertIs(mesh.is_one_corner(second=0, first=1), True)


class PiecesAndCounts(unittest.TestCase):
    def test_pieces(self):
        several = 0
        for nexts in helpers.many_nexts():
            pieces = Mesh(nexts).pieces()
            self.assertEqual(pieces, helpers.plain_pieces(nexts))
            several += len(pieces) > 1
        self.assertGreater(several, 100)

    def test_pieces_by_hand(self):
        self.assertEqual(Mesh([]).pieces(), [])
        self.assertEqual(Mesh([4, 1, 2, 3, 0, 5]).pieces(), [[0, 1, 4, 5], [2, 3]])
        self.assertEqual(Mesh([0, 5, 2, 3, 4, 1]).pieces(), [[0, 1, 4, 5], [2, 3]])

    def test_counts(self):
        for nexts in helpers.many_nexts():
            mesh = Mesh(nexts)
            faces, corners, edges, pieces, handles = mesh.counts()
            self.assertIs(type(mesh.counts()), tuple)
            self.assertEqual(faces, len(mesh.faces()))
            self.assertEqual(corners, len(mesh.corners()))
            self.assertEqual(edges, len(nexts) // 2)
            self.assertEqual(pieces, len(helpers.plain_pieces(nexts)))
            self.assertEqual(corners - edges + faces, 2 * pieces - 2 * handles)
            self.assertGreaterEqual(handles, 0)

    def test_known_counts(self):
        self.assertEqual(Mesh([]).counts(), (0, 0, 0, 0, 0))
        for text, counts in helpers.KNOWN_TEXTS.items():
            self.assertEqual(read_mesh(text).counts(), counts, text)

    def test_thirty_edges(self):
        spheres = Mesh(list(range(60)))
        self.assertEqual(spheres.counts(), (60, 30, 30, 30, 0))
        torus = [2, 3, 1, 0]
        self.assertEqual(Mesh(helpers.joined_nexts([torus] * 15)).counts(), (15, 15, 30, 15, 15))
        # One face around 15 handles: a b a' b' for each of them.
        order = [4 * k + side for k in range(15) for side in (0, 2, 1, 3)]
        nexts = [None] * 60
        for at, half in enumerate(order):
            nexts[half] = order[(at + 1) % 60]
        self.assertEqual(Mesh(nexts).counts(), (1, 1, 30, 1, 15))


class Copies(unittest.TestCase):
    def seen(self, mesh):
        halves = range(len(mesh))
        return (mesh.nexts(), mesh.faces(), mesh.corners(), mesh.pieces(), mesh.counts(),
                mesh.edges, len(mesh), mesh.text(),
                [(mesh.after(half), mesh.before(half), mesh.twin(half), mesh.turned(half))
                 for half in halves],
                [(mesh.is_one_face(0, half), mesh.is_one_corner(half, 0)) for half in halves])

    def spoil(self, rows):
        for row in rows:
            if isinstance(row, list):
                row.reverse()
                row.append(99)
        rows.append([98])

    def test_nothing_changes_a_mesh(self):
        for nexts in helpers.many_nexts()[::5]:
            passed = list(nexts)
            mesh = Mesh(passed)
            self.assertEqual(passed, nexts)
            before = self.seen(mesh)
            passed.reverse()
            passed.append(7)
            self.seen(Mesh([2, 0, 3, 1]))
            self.assertEqual(self.seen(mesh), before)
            for rows in (mesh.nexts(), mesh.faces(), mesh.corners(), mesh.pieces()):
                self.spoil(rows)
            self.assertEqual(self.seen(mesh), before)

    def test_lists_are_new(self):
        mesh = Mesh([2, 1, 0, 3])
        for call in (mesh.nexts, mesh.faces, mesh.corners, mesh.pieces):
            self.assertIsNot(call(), call())
        rows = [row for call in (mesh.faces, mesh.corners, mesh.pieces)
                for table in (call(), call()) for row in table]
        self.assertEqual(len({id(row) for row in rows}), len(rows))


class WrongLists(unittest.TestCase):
    def refuse(self, nexts):
        kept = list(nexts)
        with self.assertRaises(NotAMesh):
            Mesh(nexts)
        self.assertEqual(repr(nexts), repr(kept))

    def test_exactly_the_wrong_lists(self):
        lists = [[]]
        for _ in range(4):
            lists = lists + [row + [half] for row in lists for half in range(-1, 5)]
        for nexts in {tuple(row) for row in lists}:
            right = len(nexts) % 2 == 0 and sorted(nexts) == list(range(len(nexts)))
            if right:
                self.assertEqual(Mesh(list(nexts)).nexts(), list(nexts))
            else:
                self.refuse(list(nexts))

    def test_one_fault_in_larger_lists(self):
        for edges in range(1, 31):
            nexts = helpers.scattered_nexts(edges, edges)
            count = 2 * edges
            at = (7 * edges) % count
            other = (at + 1) % count
            self.refuse(nexts[1:])
            self.refuse(nexts[:-1])
            self.refuse(nexts + [count])
            self.refuse(nexts + [0])
            self.refuse(nexts[:at] + [nexts[other]] + nexts[at + 1:])
            self.refuse([-1 if half == 0 else half for half in nexts])
            self.refuse([count if half == count - 1 else half for half in nexts])
            self.refuse([half + 1 for half in nexts])
            self.refuse([half - 1 for half in nexts])
            self.refuse(nexts[:at] + [-count + nexts[at]] + nexts[at + 1:])
            self.assertEqual(Mesh(nexts).nexts(), nexts)

    def test_truth_values_are_no_integers(self):
        for nexts in ([True, 0], [0, True], [1, False], [False, 1], [False, True], [True, False],
                      [2, True, 3, 0], [2, 1, 3, False], [True, False, True]):
            self.refuse(nexts)

    def test_other_values_are_no_integers(self):
        for wrong in (None, "1", 1.0, [1], (1,)):
            self.refuse([0, wrong])
            self.refuse([wrong, 0])

    def test_odd_lengths(self):
        for count in range(1, 62, 2):
            self.refuse(list(range(count)))


class Comparing(unittest.TestCase):
    def test_in(self):
        for edges in range(31):
            mesh = Mesh(helpers.scattered_nexts(edges, edges))
            for half in range(-70, 130):
                self.assertIs(half in mesh, 0 <= half < 2 * edges)
            self.assertNotIn(10 ** 30, mesh)
            self.assertNotIn(-10 ** 30, mesh)
            self.assertNotIn(True, mesh)
            self.assertNotIn(False, mesh)

    def test_equal_meshes(self):
        for nexts in helpers.many_nexts():
            self.assertTrue(Mesh(nexts) == Mesh(list(nexts)))
            self.assertFalse(Mesh(nexts) != Mesh(list(nexts)))

    def test_other_meshes(self):
        small = [nexts for edges in range(3) for nexts in helpers.all_nexts(edges)]
        for first in small:
            for second in small:
                self.assertIs(Mesh(first) == Mesh(second), first == second)
                self.assertIs(Mesh(first) != Mesh(second), first != second)

    def test_last_link_counts(self):
        nexts = helpers.scattered_nexts(30, 5)
        other = nexts[:58] + [nexts[59], nexts[58]]
        self.assertFalse(Mesh(nexts) == Mesh(other))
        self.assertFalse(Mesh(list(range(60))) == Mesh(list(range(58))))
        self.assertFalse(Mesh(list(range(58))) == Mesh(list(range(60))))

    def test_values_that_are_no_mesh(self):
        mesh = Mesh([1, 0])
        for other in (None, 2, 0, True, "0 1", [1, 0], (1, 0), {0: 1, 1: 0}, Mesh, object(),
                      Anything(), NotAMesh()):
            self.assertIs(mesh == other, False)
            self.assertIs(other == mesh, False)
            self.assertIs(mesh != other, True)
            self.assertIs(other != mesh, True)
        self.assertIs(Mesh([]) == [], False)
        self.assertIs([] == Mesh([]), False)


if __name__ == "__main__":
    unittest.main()
