"""Points 5 and 18 to 22: runs of drawn and of changed routines, compared with plain runs."""

import unittest

from halfmeshes.meshes import Mesh
from halfmeshes.runs import run
from halfmeshes.texts import read_routine
from tests import checks, drawing, plain, samples

KINDS = ["Outcome", "FactFails"] + [("Broken", fault) for fault in ("dead", "unset", "links", "faces", "corners")]


class Drawn(unittest.TestCase):
    def compare(self, lines, draws, seen):
        """Run a routine on meshes until its facts hold, and compare."""
        routine = read_routine("\n".join(lines))
        for _ in range(6):
            nexts = drawing.draw_mesh(draws)
            halves = drawing.draw_halves(draws, nexts, len(routine.halves))
            result = checks.ran(routine, nexts, halves)
            if result[0] != "FactFails":
                break
        expected = plain.plain_run(lines, nexts, halves)
        self.assertEqual(result, expected, ("\n".join(lines), nexts, halves))
        kind = result[:2] if result[0] == "Broken" else result[0]
        seen[kind] = seen.get(kind, 0) + 1

    def test_drawn_routines(self):
        seen = {}
        for seed in range(4000):
            self.compare(drawing.drawn_routine(seed), drawing.Draws(seed + 1), seen)
        self.assertEqual(set(seen), set(KINDS))
        self.assertTrue(min(seen.values()) > 50, seen)

    def test_changed_routines(self):
        seen = {}
        texts = list(samples.RIGHT.values())
        for seed in range(5000):
            draws = drawing.Draws(seed)
            lines = drawing.changed_lines(draws, draws.pick(texts).split("\n"))
            if draws.chance(1, 2):
                lines = drawing.changed_lines(draws, lines)
            if plain.fault_of_routine("\n".join(lines)) is None:
                self.compare(lines, draws, seen)
        self.assertTrue(min(seen[kind] for kind in KINDS if kind != ("Broken", "unset")) > 20, seen)

    def test_each_line_left_out(self):
        for text in samples.RIGHT.values():
            lines = text.split("\n")
            for at in range(1, len(lines)):
                left = lines[:at] + lines[at + 1:]
                if plain.fault_of_routine("\n".join(left)) is None:
                    for seed in range(12):
                        self.compare(left, drawing.Draws(seed), {})

    def test_arguments_are_kept(self):
        for seed in range(300):
            draws = drawing.Draws(seed)
            routine = read_routine("\n".join(drawing.drawn_routine(seed)))
            lines = routine.lines
            nexts = drawing.draw_mesh(draws)
            halves = drawing.draw_halves(draws, nexts, len(routine.halves))
            mesh, passed = Mesh(nexts), list(halves)
            first = checks.ran(routine, nexts, passed)
            if first[0] == "Outcome":
                outcome = run(routine, mesh, passed)
                outcome.kept.clear()
                outcome.told.clear()
                self.assertIsNot(outcome.mesh, mesh)
            self.assertEqual((mesh.nexts(), passed, routine.lines), (nexts, halves, lines))
            self.assertEqual(checks.ran(routine, nexts, passed), first)


if __name__ == "__main__":
    unittest.main()
