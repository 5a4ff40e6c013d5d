"""Points 26 to 29: filled meshes, whose ways are walked, and the numbers of their edges."""

import unittest
from itertools import permutations

from halfmeshes.fillings import Partial, filled, needed_edges
from halfmeshes.meshes import Mesh
from tests import drawing, helpers
from tests.test_partial import drawn_partial


def way_along_face(mesh, half, size):
    """The halves of the rest behind an exit, and the half of the partial mesh behind them."""
    rest = []
    half = mesh.after(half)
    while half >= size:
        rest.append(half)
        half = mesh.after(half)
    return rest, half


def end_around_corner(mesh, half, size):
    half = mesh.turned(half)
    while half >= size:
        half = mesh.turned(half)
    return half


def rest_around(mesh, halves, size):
    """The halves of the rest that are reached from some of them without leaving it."""
    found, todo = set(), list(halves)
    while todo:
        half = todo.pop()
        if half >= size and half not in found:
            found.add(half)
            todo += [mesh.after(half), mesh.before(half), half ^ 1]
    return found


def are_connected(mesh, first, second, size):
    ways = [way_along_face(mesh, half, size)[0] for half in (first, second)]
    return first == second or bool(rest_around(mesh, ways[0], size) & set(ways[1]))


def shows(mesh, partial, faces, corners, joined):
    """Whether a mesh is as point 28 says, apart from the number of its edges."""
    nexts = partial.nexts()
    size = len(nexts)
    return (len(mesh) >= size
            and all(old in (None, new) for old, new in zip(nexts, mesh.nexts()))
            and all(way_along_face(mesh, one, size)[1] == faces[one] for one in faces)
            and all(end_around_corner(mesh, one, size) == helpers.plain_twin(corners[one]) for one in corners)
            and all(are_connected(mesh, first, second, size) for first, second in joined))


def counted_edges(partial, faces, corners, joined):
    """The number of edges as point 29 counts them."""
    classes = [{one} for one in partial.exits()]
    pairs = [(one, corners[faces[one]]) for one in partial.exits()] + list(joined)
    for first, second in pairs:
        one, other = [[members for members in classes if half in members][0] for half in (first, second)]
        if one is not other:
            classes.remove(other)
            one |= other
    many = 0
    for members in classes:
        left, cycles = set(members), 0
        while left:
            cycles += 1
            half = min(left)
            while half in left:
                left.remove(half)
                half = corners[faces[half]]
        many += len(members) + cycles - 2
    return many


def drawn_ways(draws, nexts):
    """Two dicts with keys in any order, and some tuples of exits."""
    partial = Partial(nexts)
    exits, entries = partial.exits(), partial.entries()

    def mixed(items):
        return helpers.shuffled(items, draws.below(10 ** 6))

    faces = dict(zip(mixed(exits), mixed(entries)))
    corners = dict(zip(mixed(entries), mixed(exits)))
    if draws.chance(1, 4):
        corners = {faces[one]: one for one in mixed(exits)}
    joined = [(draws.pick(exits), draws.pick(exits)) for _ in range(draws.below(4)) if exits]
    if joined and draws.chance(1, 3):
        joined.append(joined[0])
    return partial, faces, corners, joined[:3]


class Filled(unittest.TestCase):
    def check(self, partial, faces, corners, joined):
        kept = [partial.nexts(), list(faces.items()), list(corners.items()), list(joined)]
        mesh = filled(partial, faces, corners, joined=joined)
        self.assertTrue(shows(mesh, partial, faces, corners, joined), (kept, mesh.nexts()))
        many = mesh.edges - len(kept[0]) // 2
        self.assertEqual(many, needed_edges(partial, faces, corners, joined=joined))
        self.assertEqual(many, counted_edges(partial, faces, corners, joined))
        self.assertEqual(kept, [partial.nexts(), list(faces.items()), list(corners.items()), list(joined)])
        return mesh

    def test_drawn(self):
        for seed in range(1200):
            draws = drawing.Draws(seed)
            self.check(*drawn_ways(draws, drawn_partial(draws, draws.below(7), 7)))

    def test_all_of_few_exits(self):
        for nexts in ([None, None], [0, None], [None, None, None, 0], [None, 2, None, None], [None] * 4,
                      [None, 5, None, 1, 3, None]):
            partial = Partial(nexts)
            exits, entries = partial.exits(), partial.entries()
            for along in permutations(entries):
                for around in permutations(exits):
                    faces, corners = dict(zip(exits, along)), dict(zip(entries, around))
                    for joined in ([], [(exits[0], exits[-1])], [(exits[0], exits[0])]):
                        self.check(partial, faces, corners, joined)

    def test_order_of_keys_and_ways_of_passing(self):
        for seed in range(150):
            draws = drawing.Draws(seed)
            partial, faces, corners, joined = drawn_ways(draws, drawn_partial(draws, 1 + draws.below(6), 7))
            first = filled(partial, faces, corners, joined=joined)
            mixed = [dict(reversed(list(one.items()))) for one in (faces, corners)]
            again = filled(corners=mixed[1], joined=tuple(joined), faces=mixed[0], partial=partial)
            self.assertEqual(first, again)
            self.assertIsNot(first, again)
            self.assertEqual(needed_edges(joined=tuple(joined), corners=mixed[1], faces=mixed[0], partial=partial),
                             needed_edges(partial, faces, corners, joined=joined))
            bare = filled(partial, faces, corners)
            self.assertEqual(bare, filled(partial, faces, corners, joined=[]))
            self.assertEqual(bare, filled(partial, faces, corners, joined=()))
            self.assertEqual(needed_edges(partial, faces, corners),
                             needed_edges(partial, faces, corners, joined=[]))

    def test_joined_is_passed_by_name(self):
        partial = Partial([None, None])
        for function in (filled, needed_edges):
            with self.assertRaises(TypeError):
                function(partial, {0: 0, 1: 1}, {0: 0, 1: 1}, [(0, 1)])

    def test_no_exits(self):
        for nexts in ([], [1, 0], [2, 3, 1, 0]):
            self.assertEqual(filled(Partial(nexts), {}, {}).nexts(), nexts)
            self.assertEqual(needed_edges(Partial(nexts), {}, {}), 0)

    def test_all_exits_joined(self):
        partial = Partial([None] * 4)
        same = {half: half for half in range(4)}
        joined = [(0, 1), (1, 2), (2, 3), (3, 0), (0, 2)]
        self.assertEqual(needed_edges(partial, same, same, joined=joined), 6)
        self.check(partial, same, same, joined)

    def test_no_mesh_with_fewer_edges(self):
        counts = {}
        for edges, seeds in ((1, 60), (2, 200)):
            for seed in range(seeds):
                draws = drawing.Draws(1000 * edges + seed)
                partial, faces, corners, joined = drawn_ways(draws, drawn_partial(draws, edges, 7))
                many = needed_edges(partial, faces, corners, joined=joined)
                if many < 3 or many == 3 and counts.get(3, 0) < 12:
                    self.look(partial, faces, corners, joined)
                    counts[many] = counts.get(many, 0) + 1
        self.assertTrue(min(counts.get(many, 0) for many in range(4)) > 9, counts)

    def test_no_mesh_with_three_edges(self):
        partial = Partial([None, None, None, 1])
        self.assertEqual(needed_edges(partial, {0: 0, 1: 2, 2: 3}, {0: 0, 2: 1, 3: 2}, joined=[(0, 1), (1, 2)]), 4)
        self.look(partial, {0: 0, 1: 2, 2: 3}, {0: 0, 2: 1, 3: 2}, [(0, 1), (1, 2)])

    def look(self, partial, faces, corners, joined):
        """Go through all meshes with fewer edges."""
        for rest in range(needed_edges(partial, faces, corners, joined=joined)):
            for nexts in extending(partial.nexts(), rest):
                self.assertFalse(shows(Mesh(nexts), partial, faces, corners, joined))


def extending(nexts, rest):
    """All lists of next links that extend those of a partial mesh by some edges."""
    size = len(nexts) + 2 * rest
    places = [half for half in range(size) if half >= len(nexts) or nexts[half] is None]
    for order in permutations([half for half in range(size) if half not in nexts]):
        found = nexts + [None] * (2 * rest)
        for half, other in zip(places, order):
            found[half] = other
        yield found


if __name__ == "__main__":
    unittest.main()
