"""Points 6, 7, 32 and 33: where routines break."""

import unittest

from halfmeshes.errors import MeshError, NeverGiven
from halfmeshes.judging import breaks
from halfmeshes.meshes import Mesh
from halfmeshes.pictures import picture, pictures
from halfmeshes.texts import read_routine
from tests import drawing, looking, plain, samples
from tests.looking import BREAKS, FAILS

TWO = {name: read_routine(text) for name, text in samples.RIGHT.items()
       if len(read_routine(text).halves) < 3 and name != "ask"}
# A fact that says that six halves have different corners holds only for large meshes.
ROW = ["a", "a.next", "a.next.next", "a.next.next.next", "a.prev", "a.prev.prev"]
LARGE = [f"given {one}.corner != {two}.corner" for at, one in enumerate(ROW) for two in ROW[:at]]


def without(name, *lines):
    """A sample without some lines."""
    found = samples.RIGHT[name].split("\n")
    for line in lines:
        found.remove(line)
    return read_routine("\n".join(found))


def routine(halves, *lines):
    return read_routine("\n".join([f"routine try {halves}"] + list(lines)))


class Judged(unittest.TestCase):
    def verdict(self, deed):
        """None, the number of edges of the told mesh, which is looked at, or the name of the error."""
        try:
            found = breaks(deed)
        except NeverGiven as error:
            self.assertIsInstance(error, MeshError)
            self.assertTrue(all(one == FAILS for one in self.small(deed)), deed.lines)
            return "NeverGiven"
        if found is None:
            return None
        mesh, halves = found
        self.assertIs(type(found), tuple)
        self.assertIs(type(mesh), Mesh)
        self.assertIs(type(halves), list)
        self.assertEqual(looking.result(deed, mesh, halves), BREAKS, deed.lines)
        self.assertLessEqual(mesh.edges, 30)
        again = breaks(deed=deed)
        self.assertEqual(again[0].edges, mesh.edges)
        self.assertIsNot(again[1], halves)
        return mesh.edges

    def small(self, deed, most=2):
        rows = looking.ALL_ROWS[len(deed.halves)]
        return [looking.result(deed, mesh, halves) for mesh, halves in rows if mesh.edges <= most]

    def check(self, deed, seed):
        """The verdict, compared with many meshes."""
        verdict = self.verdict(deed)
        if verdict in (None, "NeverGiven"):
            for one, mesh, halves in looking.results(deed, seed):
                self.assertNotIn(one, (BREAKS, verdict), (deed.lines, mesh.nexts(), halves))
                self.assertIsNone(verdict, (deed.lines, mesh.nexts(), halves))
        else:
            for edges in range(1, min(verdict, 3)):
                self.assertNotIn(BREAKS, self.small(deed, edges), deed.lines)
        return verdict


class Known(Judged):
    def test_right_routines(self):
        for name, text in samples.RIGHT.items():
            if name != "ask":
                self.assertIsNone(breaks(read_routine(text)), name)

    def test_known_numbers_of_edges(self):
        for many, name, *lines in (
                (1, "join", "given a != b"), (1, "join", "given a.face == b.face"), (1, "join", "c.next = p"),
                (1, "join", "g.some = p"), (1, "join", "q.corner = v"), (1, "bridge", "drop h"),
                (1, "bridge", "given a.face != b.face"), (1, "spur", "new corner w", "q.corner = w", "w.some = q"),
                (1, "halve", "round p.corner = w"), (1, "halve", "m.next = q"),
                (1, "merge", "given a.face != a.twin.face"), (2, "merge", "given a.next != a"),
                (2, "merge", "given a.twin.next != a.twin"), (2, "merge", "drop g"), (2, "merge", "u.some = k"),
                (1, "cut", "given a.face == a.twin.face"), (2, "cut", "given a.next != a.twin"),
                (2, "cut", "f.some = n"), (3, "cut", "u.some = k"), (3, "cut", "v.some = n"),
                (1, "prune", "given a.next == a.twin"), (1, "prune", "given a.prev != a.twin"),
                (2, "prune", "drop v"), (2, "erase", "given a.next == a.twin"), (1, "erase", "drop u"),
                (1, "swapii", "given a != b"), (2, "swapii", "u.some = c"), (2, "swapoo", "drop g"),
                (1, "swapoo", "given a.face != b.face"), (1, "swapio", "drop v"), (1, "swapoi", "w.some = d"),
                (2, "repaint", "drop d"), (1, "repaint", "drop c")):
            deed = without(name, *lines)
            self.assertEqual(self.check(deed, many), many, (name, lines))
            self.assertEqual(looking.least_edges(
                len(deed.halves), lambda mesh, halves, deed=deed: looking.result(deed, mesh, halves) == BREAKS), many)
        self.assertIsNone(breaks(without("bridge", "g.some = p")))

    def test_one_label_on_two_or_two_on_one(self):
        for kind, other in (("face", 1), ("corner", 1)):
            alike, unlike = f"given a.{kind} == b.{kind}", f"given a.{kind} != b.{kind}"
            # One label on two faces or corners.
            lines = [f"let f = a.{kind}", f"let g = b.{kind}", f"round b.{kind} = f"]
            self.assertEqual(self.check(routine("a b", unlike, *lines, "drop g"), 1), other)
            self.assertIsNone(self.check(routine("a b", alike, *lines), 2))
            self.assertEqual(self.check(routine("a b", *lines), 3), other)
            # Two labels on one.
            lines = [f"new {kind} f", f"a.{kind} = f", "f.some = a"]
            self.assertEqual(self.check(routine("a", *lines), 4), 1)
            self.assertEqual(self.check(routine("a b", unlike, *lines), 5), other)
            # A label on no half.
            self.assertEqual(self.check(routine("a", f"new {kind} f"), 6), 1)
            lines = [f"let g = a.{kind}", f"new {kind} f", f"round a.{kind} = f", "f.some = a"]
            self.assertEqual(self.check(routine("a", *lines), 7), 1)
            self.assertIsNone(self.check(routine("a", *lines, "drop g"), 8))
            # Two labels are dropped that may be one.
            lines = [f"let x = a.{kind}", f"let y = b.{kind}", f"new {kind} f", f"new {kind} g",
                     f"round a.{kind} = f", f"round b.{kind} = g", "f.some = a", "g.some = b", "drop x", "drop y"]
            self.assertEqual(self.check(routine("a b", *lines), 9), 1)
            self.assertIsNone(self.check(routine("a b", unlike, *lines), 10))
            # Labels that are exchanged, and refer to halves that bear them, or not.
            lines = [f"let x = a.{kind}", f"let y = b.{kind}", f"round a.{kind} = y", f"round b.{kind} = x"]
            self.assertEqual(self.check(routine("a b", unlike, *lines, "x.some = b"), 11), other)
            self.assertEqual(self.check(routine("a b", unlike, *lines, "x.some = a", "y.some = b"), 12), other)
            self.assertIsNone(self.check(routine("a b", unlike, *lines, "x.some = b", "y.some = a"), 13))

    def test_links(self):
        self.assertEqual(self.check(routine("a", "a.next = a"), 1), 1)
        self.assertEqual(self.check(routine("a", "let b = a.next", "a.next = a"), 2), 1)
        self.assertIsNone(self.check(routine("a", "let b = a.next", "a.next = b", "b.prev = a"), 3))
        self.assertEqual(self.check(routine("a b", "a.next = b", "b.prev = a"), 4), 1)
        self.assertIsNone(self.check(routine("a b", "given a.next == b", "a.next = b", "b.prev = a"), 5))
        self.assertEqual(self.check(routine("a", "drop a"), 6), 1)
        self.assertEqual(self.check(routine("a b", "drop a", "tell b"), 7), 1)
        self.assertEqual(self.check(routine("a", "make p q"), 8), 1)
        self.assertEqual(self.check(routine("a", "make p q", "let f = p.face"), 9), 1)
        self.assertEqual(self.check(routine("a", "make p q", "let r = p.next"), 10), 1)
        # All links around are read, and none of them is written.
        around = ["let n = a.next", "let p = a.prev", "let t = a.twin", "let m = t.next", "let k = t.prev"]
        self.assertEqual(self.check(routine("a", *around, "drop a"), 13), 1)
        self.assertIsNone(self.check(routine("a", *around, "tell t"), 14))
        # Wrong only behind a half whose link was not read.
        self.assertEqual(self.check(routine("a", "let b = a.next.next", "b.prev = a", "a.next = b"), 11), 1)
        self.assertEqual(self.check(routine("a b", "if a.next == b.twin", "drop b", "end", "tell a"), 12), 1)

    def test_facts_that_contradict_each_other(self):
        for lines in (["given a == b", "given a != b"], ["given a.face != a.face"],
                      ["given a.next == b", "given b.prev != a"], ["given a.twin == a"],
                      ["given a.face == b.face", "given b.face != a.face"],
                      ["given a.corner == b.corner", "given a.prev.twin == b", "given a.corner != b.corner"],
                      ["given a.face == b.face", "given b.face == a.twin.face", "given a.twin.face != a.face"],
                      ["given a.next == a", "given a != b", "given a.face == b.face"]):
            for rest in ([], ["drop a"]):
                self.assertEqual(self.check(routine("a b", *lines, *rest), 1), "NeverGiven", lines)

    def test_facts_that_need_large_meshes(self):
        for lines in (["drop a"], ["let f = a.face", "drop f"], ["make p q"]):
            for facts, least in ((LARGE, 5), (LARGE[:10], 4)):
                deed = routine("a", *facts, *lines)
                verdict = self.verdict(deed)
                self.assertGreaterEqual(verdict, least)
                self.assertEqual(looking.least_edges(
                    1, lambda mesh, halves, deed=deed: looking.result(deed, mesh, halves) == BREAKS),
                    verdict if verdict < 5 else None)
            self.assertIsNone(breaks(routine("a", *LARGE)))

    def test_breaks_only_far_away(self):
        # Wrong only where the face is longer than this.
        for many in range(1, 5):
            facts = [f"given {'a' + '.next' * at} != a" for at in range(1, many + 1)]
            self.assertEqual(self.check(routine("a", *facts, "drop a"), many), (many + 2) // 2)
            conditions = [line.replace("given", "if") for line in facts[-3:]]
            lines = conditions + ["drop a"] + ["end"] * len(conditions)
            self.assertEqual(self.check(routine("a", *lines), many), (many + 2) // 2)


class Drawn(Judged):
    def test_right_ones(self):
        for seed, (name, deed) in enumerate(TWO.items()):
            self.assertIsNone(self.check(deed, seed), name)

    def test_changed_ones(self):
        seen = {}
        for seed in range(700):
            draws = drawing.Draws(seed + 50)
            lines = draws.pick([deed.lines for deed in TWO.values()])
            for _ in range(1 + draws.below(2)):
                lines = drawing.changed_lines(draws, lines)
            if plain.fault_of_routine("\n".join(lines)) is None:
                deed = read_routine("\n".join(lines))
                if looking.is_within_limits(deed):
                    verdict = self.check(deed, seed)
                    seen[verdict] = seen.get(verdict, 0) + 1
        self.assertTrue(min(seen.get(one, 0) for one in (None, 1, 2)) > 20, seen)

    def test_drawn_ones(self):
        seen = {}
        for seed in range(500):
            deed = read_routine("\n".join(drawing.drawn_routine(seed + 7000)))
            if looking.is_within_limits(deed):
                verdict = self.check(deed, seed)
                seen[verdict] = seen.get(verdict, 0) + 1
        self.assertTrue(min(seen.get(one, 0) for one in (None, 1)) > 10, seen)

    def test_breaks_and_pictures_agree(self):
        for seed in range(300):
            draws = drawing.Draws(seed)
            lines = drawing.changed_lines(draws, draws.pick([deed.lines for deed in TWO.values()]))
            if plain.fault_of_routine("\n".join(lines)) is None:
                deed = read_routine("\n".join(lines))
                found = pictures(deed)
                try:
                    broken = breaks(deed)
                except NeverGiven:
                    self.assertEqual(found, [])
                    continue
                self.assertNotEqual(found, [])
                if broken is None:
                    for _, mesh, halves in found:
                        self.assertNotIn(looking.result(deed, mesh, halves), (BREAKS, FAILS))
                else:
                    shown = picture(deed, broken[0], broken[1])
                    self.assertIn(repr(shown), [repr(one[0]) for one in found])


if __name__ == "__main__":
    unittest.main()
