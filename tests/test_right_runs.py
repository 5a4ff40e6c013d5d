"""Points 2 and 18 to 22: what right routines change, on all small meshes and on large ones."""

import unittest
from itertools import product

from halfmeshes.errors import FactFails
from halfmeshes.likeness import small_meshes
from halfmeshes.meshes import Mesh
from halfmeshes.runs import run
from halfmeshes.texts import read_routine
from tests import checks, drawing, helpers, plain, samples

# Faces, corners, edges, pieces and handles.
CHANGES = {
    "join": {(1, 0, 1, 0, 0)},
    "bridge": {(-1, 0, 1, -1, 0), (-1, 0, 1, 0, 1)},
    "spur": {(0, 1, 1, 0, 0)},
    "halve": {(0, 1, 1, 0, 0)},
    "merge": {(-1, 0, -1, 0, 0)},
    "cut": {(1, 0, -1, 1, 0), (1, 0, -1, 0, -1)},
    "prune": {(0, -1, -1, 0, 0)},
    "erase": {(-1, -2, -1, -1, 0)},
    "swapii": {(1, 1, 0, 1, 0), (1, 1, 0, 0, -1)},
    "swapoo": {(-1, -1, 0, -1, 0), (-1, -1, 0, 0, 1)},
    "swapio": {(1, -1, 0, 0, 0)},
    "swapoi": {(-1, 1, 0, 0, 0)},
    "sort": {(0, 0, 0, 0, 0)},
    "repaint": {(0, 0, 0, 0, 0)},
    "plain": {(0, 0, 0, 0, 0)},
    "ask": {(0, 0, 0, 0, 0)},
    "show": {(0, 0, 0, 0, 0)},
}


def rows(many):
    """Small meshes with marked halves, one of them with another piece beside."""
    found = [(mesh.nexts(), halves) for edges in (1, 2, 3) for mesh, halves in small_meshes(edges, many)]
    return found + [(nexts + [len(nexts) + 1, len(nexts)], halves) for nexts, halves in found[:40]]


def large_rows(many):
    """Meshes with 4 to 30 edges and halves that often lie together."""
    draws = drawing.Draws(many)
    for edges in (4, 5, 6, 9, 14, 22, 30):
        for seed in range(12):
            pick = draws.pick((helpers.scattered_nexts, helpers.pieced_nexts))
            nexts = pick(edges, 100 * edges + seed)
            yield nexts, drawing.draw_halves(draws, nexts, many)


class RightRuns(unittest.TestCase):
    def change(self, name, nexts, halves):
        """Check the run of a sample and return how the counts change, or None if a fact fails."""
        routine, mesh = read_routine(samples.RIGHT[name]), Mesh(nexts)
        try:
            outcome = run(routine, mesh, halves)
        except FactFails as error:
            self.assertTrue(routine.lines[error.line - 1].startswith("given "))
            return None
        self.check_numbers(mesh, outcome)
        return tuple(new - old for new, old in zip(outcome.mesh.counts(), mesh.counts()))

    def check_numbers(self, mesh, outcome):
        """The old edges that remain come first, in their order, and their halves keep their sides."""
        kept = outcome.kept
        self.assertEqual(sorted(kept), list(kept))
        self.assertEqual([kept[half] for half in sorted(kept)], list(range(len(kept))))
        self.assertTrue(all(half in mesh and number % 2 == half % 2 for half, number in kept.items()))
        self.assertTrue(all(helpers.plain_twin(half) in kept for half in kept))

    def test_changes(self):
        self.assertEqual(set(CHANGES), set(samples.RIGHT))
        for name, expected in CHANGES.items():
            many = len(read_routine(samples.RIGHT[name]).halves)
            found = {self.change(name, nexts, halves) for nexts, halves in rows(many)}
            found |= {self.change(name, nexts, halves) for nexts, halves in large_rows(many)}
            self.assertEqual(found - {None}, expected, name)

    def test_same_as_plain_runs(self):
        for name, text in samples.RIGHT.items():
            many = len(read_routine(text).halves)
            for turn, (nexts, halves) in enumerate(rows(many)[::9] + list(large_rows(many))):
                named = samples.with_odd_names(text, turn)
                result = checks.ran(read_routine(named), nexts, halves)
                self.assertEqual(result, plain.plain_run(text.split("\n"), nexts, halves))
                self.assertIn(result[0], ("Outcome", "FactFails"))

    def test_all_halves_of_a_mesh(self):
        for nexts in ([2, 3, 1, 0], [0, 1, 3, 2], helpers.scattered_nexts(4, 5)):
            for name in ("join", "bridge", "swapii", "swapoo", "swapio", "swapoi"):
                done = [self.change(name, nexts, [a, b]) is not None for a, b in product(range(len(nexts)), repeat=2)]
                mesh = Mesh(nexts)
                pairs = product(range(len(nexts)), repeat=2)
                same = [mesh.is_one_face(a, b) for a, b in pairs]
                if name == "join":
                    self.assertEqual(sum(done), sum(same) - len(nexts))
                elif name == "bridge":
                    self.assertEqual(sum(done), len(same) - sum(same))

    def test_there_and_back(self):
        # An edge that was put in and is taken out again leaves the mesh as it was.
        join, merge = read_routine(samples.JOIN), read_routine(samples.MERGE)
        bridge, cut = read_routine(samples.BRIDGE), read_routine(samples.CUT)
        spur, prune = read_routine(samples.SPUR), read_routine(samples.PRUNE)
        for edges in (1, 2, 5, 12, 29):
            for seed in range(20):
                nexts = helpers.pieced_nexts(edges, seed)
                mesh, halves = Mesh(nexts), [seed % (2 * edges), 5 * seed % (2 * edges)]
                for there, back in ((join, merge), (bridge, cut), (spur, prune)):
                    try:
                        outcome = run(there, mesh, halves[:len(there.halves)])
                        again = run(back, outcome.mesh, outcome.told[:1])
                    except FactFails:
                        continue
                    self.assertEqual(again.mesh.nexts(), nexts)

    def test_the_largest_mesh(self):
        nexts = helpers.scattered_nexts(30, 1)
        for name in ("spur", "halve"):
            for half in range(60):
                self.assertEqual(self.change(name, nexts, [half]), (0, 1, 1, 0, 0))


if __name__ == "__main__":
    unittest.main()
