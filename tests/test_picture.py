"""Points 30 and 31: the picture of a run."""

import unittest

from halfmeshes.errors import FactFails
from halfmeshes.meshes import Mesh
from halfmeshes.pictures import picture
from halfmeshes.texts import read_routine
from tests import drawing, helpers, plain, samples
from tests.plain_pictures import plain_picture


def seen(routine, nexts, halves):
    try:
        return picture(routine, Mesh(nexts), halves)
    except FactFails as error:
        return ("FactFails", error.line)


class Known(unittest.TestCase):
    def gives(self, lines, nexts, halves, *expected):
        text = "routine look " + " ".join("abc"[:len(halves)]) + "".join("\n" + line for line in lines)
        found = seen(read_routine(text), nexts, halves)
        self.assertEqual(found, expected)
        self.assertIs(type(found), tuple)
        self.assertEqual(plain_picture(text.split("\n"), nexts, halves), expected)

    def test_halves_alone(self):
        self.gives([], [0, 1], [1], [0], [], [])
        self.gives([], [0, 1], [1, 0], [0, 1], [], [])
        self.gives([], [0, 1], [1, 1], [0, 0], [], [])
        self.gives([], [2, 3, 1, 0], [3, 1, 3], [0, 1, 0], [], [])

    def test_reads(self):
        self.gives(["let b1 = a.next.next"], [2, 3, 1, 0], [0], [0], [(0, "next", 1), (1, "next", 2)], [])
        self.gives(["let b1 = a.next.next"], [1, 0], [0], [0], [(0, "next", 1), (1, "next", 0)], [])
        self.gives(["let b1 = a.next.next"], [0, 1], [0], [0], [(0, "next", 0)], [])
        self.gives(["let b1 = a.next.prev.twin.twin"], [1, 0], [1], [0],
                   [(0, "next", 1), (0, "twin", 1)], [])
        self.gives(["let b1 = a.prev", "let c1 = b1.next.twin"], [2, 3, 1, 0], [0], [0],
                   [(0, "prev", 1), (0, "twin", 2)], [])

    def test_facts_come_first(self):
        self.gives(["given b.twin == a.prev", "let c1 = a.prev"], [1, 0], [0, 0], [0, 0],
                   [(0, "twin", 1), (0, "prev", 1)], [])
        self.gives(["given a == a", "given b.next == a.prev"], [2, 3, 1, 0], [0, 0], "FactFails", 3)

    def test_conditions(self):
        lines = ["if a.face == b.face", "end", "if a.corner != b.corner", "end", "if a == b", "end"]
        self.gives(lines, [1, 0], [0, 1], [0, 1], [], [True, True])
        self.gives(lines, [0, 1], [0, 1], [0, 1], [], [False, False])
        self.gives(lines, [0, 1], [1, 1], [0, 0], [], [True, False])

    def test_conditions_that_break(self):
        lines = ["make p q", "if a.face == a.next.face", "if a.face != p.face", "end", "end"]
        self.gives(lines, [1, 0], [0], [0], [(0, "next", 1)], [True])
        self.gives(lines, [0, 1], [0], [0], [(0, "next", 0)], [True])

    def test_written_links_are_no_reads(self):
        lines = ["make p q", "a.next = p", "p.prev = a", "let b1 = a.next.prev.twin", "let c1 = p.twin.twin"]
        self.gives(lines, [1, 0], [0], [0], [(0, "twin", 1)], [])
        self.gives(["a.next = a", "let b1 = a.next", "let c1 = a.prev"], [1, 0], [0], [0], [(0, "prev", 1)], [])
        # The half behind still leads back to it, although its link was written.
        self.gives(["a.next = a", "let b1 = b.prev"], [1, 0], [0, 1], [0, 1], [(1, "prev", 0)], [])

    def test_drop(self):
        self.gives(["drop a"], [1, 0], [0], [0], [(0, "twin", 1)], [])
        self.gives(["let b1 = a.twin", "drop b1"], [1, 0], [0], [0], [(0, "twin", 1)], [])
        self.gives(["make p q", "drop p", "drop a"], [1, 0], [0], [0], [(0, "twin", 1)], [])
        self.gives(["drop a", "let c1 = b.prev.next"], [2, 3, 0, 1], [0, 2], [0, 1],
                   [(0, "twin", 2), (1, "prev", 0)], [])
        self.gives(["drop a", "drop a"], [1, 0], [0], [0], [(0, "twin", 1)], [])
        self.gives(["drop a", "drop b"], [1, 0], [0, 1], [0, 1], [(0, "twin", 1)], [])

    def test_rounds_read_nothing(self):
        lines = ["let f = a.face", "let u = a.corner", "round a.face = f", "round a.corner = u", "drop f"]
        self.gives(lines, [2, 3, 1, 0], [0], [0], [], [])


class Drawn(unittest.TestCase):
    def check(self, lines, seed, counts):
        routine = read_routine("\n".join(lines))
        draws = drawing.Draws(seed)
        for turn in range(5):
            pick = draws.pick((helpers.scattered_nexts, helpers.pieced_nexts))
            edges = 30 if turn == 4 else 1 + draws.below(4)
            nexts = pick(edges, draws.below(10 ** 6))
            halves = drawing.draw_halves(draws, nexts, len(routine.halves))
            mesh, passed = Mesh(nexts), list(halves)
            found = seen(routine, nexts, halves)
            self.assertEqual(found, plain_picture(lines, nexts, halves), (lines, nexts, halves))
            counts[found[0] == "FactFails"] = counts.get(found[0] == "FactFails", 0) + 1
            if found[0] != "FactFails":
                for one in found:
                    one.append(5)
                again = picture(halves=passed, mesh=mesh, routine=routine)
                self.assertEqual([one + [5] for one in again], list(found))
            self.assertEqual((passed, mesh.nexts()), (halves, nexts))

    def test_drawn_routines(self):
        counts = {}
        for seed in range(900):
            self.check(drawing.drawn_routine(seed), seed, counts)
        self.assertTrue(min(counts.values()) > 300 and len(counts) == 2, counts)

    def test_samples_and_changed_ones(self):
        counts = {}
        for seed in range(900):
            draws = drawing.Draws(seed)
            lines = draws.pick(list(samples.RIGHT.values())).split("\n")
            for _ in range(draws.below(3)):
                lines = drawing.changed_lines(draws, lines)
            if plain.fault_of_routine("\n".join(lines)) is None:
                self.check(lines, seed, counts)


if __name__ == "__main__":
    unittest.main()
