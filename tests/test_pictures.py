"""Points 30, 31 and 33: all pictures of a routine."""

import unittest
from itertools import combinations

from halfmeshes.errors import FactFails
from halfmeshes.likeness import small_meshes
from halfmeshes.meshes import Mesh
from halfmeshes.pictures import picture, pictures
from halfmeshes.runs import run
from halfmeshes.texts import read_routine
from tests import drawing, looking, plain, samples
from tests.plain_pictures import plain_picture


def routine(halves, *lines):
    return read_routine("\n".join([f"routine look {halves}"] + list(lines)))


def row_of(name, many):
    """Paths to the halves of a row."""
    return [name + ".next" * at for at in range(many)]


def short_row(name, many):
    """Lines that bind the halves of a row, and their names."""
    names = [name] + [f"{name}{at}" for at in range(1, many)]
    return [f"let {two} = {one}.next" for one, two in zip(names, names[1:])], names


def unlike(paths, kind="corner"):
    return [f"given {one}.{kind} != {two}.{kind}" for one, two in combinations(paths, 2)]


class Known(unittest.TestCase):
    def count(self, many, halves, *lines):
        read = routine(halves, *lines)
        found = pictures(read)
        self.assertEqual(len(found), many, (lines, [one[0] for one in found]))
        keys = [repr(one[0]) for one in found]
        self.assertEqual(len(set(keys)), len(keys))
        for shown, mesh, passed in found:
            self.assertLessEqual(mesh.edges, 30)
            self.assertEqual(picture(read, mesh, passed), shown)
            self.assertEqual(plain_picture(list(read.lines), mesh.nexts(), passed), shown)

    def test_halves_alone(self):
        self.count(1, "a")
        self.count(2, "a b")
        self.count(1, "a b", "given a == b")
        self.count(1, "a b", "given a != b")

    def test_next_halves(self):
        for many in range(1, 7):
            lines, _ = short_row("a", many + 1)
            self.count(many + 1, "a", *lines)

    def test_other_links(self):
        self.count(3, "a", "let b = a.next", "let c = a.prev")
        self.count(3, "a", "let b = a.next", "let c = b.twin")
        self.count(1, "a", "let b = a.twin", "let c = b.twin")
        self.count(3, "a", "let b = a.next.prev.prev.next")
        self.count(3, "a b", "let c = a.twin", "let d = b.twin")
        self.count(1, "a", "drop a")

    def test_conditions(self):
        for kind in ("face", "corner"):
            self.count(3, "a b", f"if a.{kind} == b.{kind}", "end")
            self.count(2, "a b", f"given a.{kind} == b.{kind}")
            self.count(1, "a b", f"given a.{kind} != b.{kind}")
            self.count(1, "a", f"if a.{kind} == a.{kind}", "end")
            self.count(0, "a", f"given a.{kind} != a.{kind}")
        self.count(5, "a b", "if a.face == b.face", "end", "if b.corner != a.corner", "end")
        self.count(1, "a b", "given a.face != b.face", "if a.face == b.face", "end")
        # The next half is in the same face, and the turn in the same corner.
        self.count(2, "a", "if a.face == a.next.face", "end")
        self.count(1 + 2 + 3, "a", "given a.corner == a.prev.twin.corner", "let b = a.next")
        self.count(0, "a", "given a.corner != a.prev.twin.corner")

    def test_three_faces(self):
        lines = ["if a.face == b.face", "end", "if b.face == a.twin.face", "end", "if a.face == a.twin.face", "end"]
        # Equal halves; the twin; another half, and of three faces not just two pairs are alike.
        self.count(2 + 2 + 5, "a b", *lines)

    def test_contradictions(self):
        self.count(0, "a b", "given a == b", "given a != b")
        self.count(0, "a b", "given a == b", "given a.corner != b.corner")
        self.count(0, "a", "given a.twin == a")
        self.count(0, "a b", "given a.next == b", "given a.face != b.face")

    def test_unlike_corners_of_a_row(self):
        for many in range(2, 6):
            self.count(1, "a", *unlike(row_of("a", many)))
        # Each row is closed behind as many halves, or it is longer.
        for many in range(2, 5):
            lines, _ = short_row("a", many + 1)
            self.count(2, "a", *unlike(row_of("a", many)), *lines)

    def test_unlike_corners_of_six_and_seven(self):
        paths = row_of("a", 5) + ["a.prev"]
        self.count(1, "a", *unlike(paths))
        self.count(1, "a", *unlike(paths + ["a.prev.prev"]))

    def test_unlike_corners_of_two_rows(self):
        for first, second in ((1, 1), (2, 1), (2, 2), (3, 2), (3, 3), (4, 3), (3, 4)):
            self.count(1, "a b", *unlike(row_of("a", first) + row_of("b", second)))

    def test_unlike_faces(self):
        self.count(1, "a b", *unlike(["a", "b", "a.twin", "b.twin"], "face"))
        self.count(0, "a b", *unlike(["a", "b", "a.next"], "face"))


class All(unittest.TestCase):
    def check(self, read, seed):
        """The pictures on drawn meshes are all there; returns how many there are in all."""
        found = pictures(read)
        keys = [repr(one[0]) for one in found]
        self.assertEqual(len(set(keys)), len(keys), read.lines)
        for shown, mesh, halves in found[:40]:
            self.assertEqual(picture(read, mesh, halves), shown)
            self.assertLessEqual(mesh.edges, 30)
        many = len(read.halves)
        for mesh, halves in looking.ALL_ROWS[many][::3] + list(looking.drawn_rows(seed, many)):
            try:
                shown = picture(read, mesh, halves)
            except FactFails:
                continue
            self.assertIn(repr(shown), keys, (read.lines, mesh.nexts(), halves))
        return len(found)

    def test_samples(self):
        for name, text in samples.RIGHT.items():
            read = read_routine(text)
            if len(read.halves) < 3:
                self.check(read, len(name))

    def test_drawn(self):
        counts = {}
        for seed in range(500):
            draws = drawing.Draws(seed)
            lines = drawing.drawn_routine(seed)
            if seed % 2:
                lines = drawing.changed_lines(draws, draws.pick(list(samples.RIGHT.values())).split("\n"))
            if plain.fault_of_routine("\n".join(lines)) is None:
                read = read_routine("\n".join(lines))
                if looking.is_within_limits(read):
                    many = self.check(read, seed)
                    counts[many] = counts.get(many, 0) + 1
        self.assertTrue(sum(counts.values()) > 200 and len(counts) > 8, counts)

    def test_all_that_small_meshes_show(self):
        # Meshes with so many edges are large enough for all pictures of these.
        for halves, most, lines in (
                ("a", 3, ["let b = a.next", "let c = a.prev"]),
                ("a", 4, ["let b = a.next", "let c = b.twin", "let d = c.prev"]),
                ("a", 4, ["let b = a.prev", "let c = b.prev", "if a.next == c.twin", "drop b", "end"]),
                ("a b", 3, ["let c = a.next", "if c == b", "let d = b.twin", "end"]),
                ("a b", 4, ["let c = a.twin", "let d = b.next"]),
                ("a b", 3, ["if a.face == b.face", "end", "if a.corner == b.corner", "end"]),
                ("a b", 4, ["given a.face != b.face", "let c = a.next", "if c.corner == b.corner", "end"])):
            read = routine(halves, *lines)
            many = len(read.halves)
            seen = set()
            for edges in range(1, most + 1):
                for mesh, passed in small_meshes(edges, many):
                    shown = plain_picture(list(read.lines), mesh.nexts(), passed)
                    if shown[0] != "FactFails":
                        seen.add(repr(shown))
            self.assertEqual({repr(one[0]) for one in pictures(read)}, seen, lines)

    def test_results_are_new(self):
        read = routine("a b", "let c = a.next", "if a.face == b.face", "end")
        first, second = pictures(read), pictures(routine=read)
        self.assertEqual([one[0] for one in first], [one[0] for one in second])
        expected = repr([one[0] for one in second])
        for shown, mesh, halves in first:
            self.assertIs(type(mesh), Mesh)
            for part in shown:
                part.append(1)
            halves.append(1)
        first.clear()
        self.assertEqual(repr([one[0] for one in pictures(read)]), expected)
        parts = [part for shown, _, halves in second for part in list(shown) + [halves]]
        self.assertEqual(len({id(part) for part in parts}), len(parts))

    def test_runs_that_break_have_pictures(self):
        read = routine("a", "drop a", "let b = a.next")
        self.assertEqual([one[0] for one in pictures(read)], [([0], [(0, "twin", 1)], [])])
        for _, mesh, halves in pictures(read):
            with self.assertRaises(ValueError):
                run(read, mesh, halves)


if __name__ == "__main__":
    unittest.main()
