"""Points 6, 14 to 16, 32 and 34: what deeds change."""

import unittest

from halfmeshes.changes import changes
from halfmeshes.errors import Breaks, MeshError, NeverGiven
from halfmeshes.likeness import small_meshes
from halfmeshes.meshes import Mesh
from halfmeshes.texts import read_routine
from tests import drawing, looking, plain, samples
from tests.looking import BREAKS, FAILS
from tests.test_breaks import LARGE, TWO, routine, without
from tests.test_pictures import row_of, unlike
from tests.test_right_runs import CHANGES
from tests.test_script_breaks import script

# A corner parted in two between two of its halves, and two corners made one.
PART = """routine part a b
given a.corner == b.corner
given a != b
let c = a.prev
let d = b.prev
let f = a.face
let g = b.face
let u = a.corner
make p q
c.next = p
p.prev = c
p.next = a
a.prev = p
d.next = q
q.prev = d
q.next = b
b.prev = q
p.face = f
q.face = g
q.corner = u
u.some = a
new corner w
round b.corner = w
w.some = b"""
UNPART = """routine unpart a
given a.corner != a.twin.corner
given a.next != a.twin
given a.prev != a.twin
given a.next != a
given a.prev != a
given a.twin.next != a.twin
let t = a.twin
let c = a.prev
let n = a.next
let d = t.prev
let m = t.next
let f = a.face
let g = t.face
let u = a.corner
let v = t.corner
c.next = n
n.prev = c
d.next = m
m.prev = d
drop a
f.some = n
g.some = m
drop v
round n.corner = u
u.some = n"""

def least_changes(deed, most):
    """The changes on all meshes with so many edges, each with the least number of edges."""
    found = {}
    many = len(deed.halves)
    for edges in range(1, most + 1):
        for mesh, halves in small_meshes(edges, many):
            one = looking.result(deed, mesh, halves)
            if one not in (BREAKS, FAILS):
                found.setdefault(one, edges)
    return found


class Changed(unittest.TestCase):
    def told(self, deed, seed=0):
        """The changes with their numbers of edges; they are looked at."""
        found = changes(deed)
        keys = [change for change, _, _ in found]
        self.assertEqual(keys, sorted(set(keys)))
        for change, mesh, halves in found:
            self.assertIs(type(mesh), Mesh)
            self.assertEqual(looking.result(deed, mesh, halves), change, deed.lines)
            self.assertLessEqual(mesh.edges, 30)
        for one, mesh, halves in looking.results(deed, seed):
            self.assertIn(one, keys, (deed.lines, mesh.nexts(), halves))
        told = {change: mesh.edges for change, mesh, _ in found}
        most = 4 if max(told.values()) > 4 else 3
        self.assertEqual({change: many for change, many in told.items() if many <= most},
                         least_changes(deed, most), deed.lines)
        return told

    def wrong(self, kind, deed):
        """The error that is raised, with a mesh that is looked at."""
        with self.assertRaises(MeshError) as caught:
            changes(deed)
        self.assertIs(type(caught.exception), kind)
        if kind is Breaks:
            self.assertEqual(looking.result(deed, caught.exception.mesh, caught.exception.halves), BREAKS)
            return caught.exception.mesh.edges
        return None


class Known(Changed):
    def test_right_routines(self):
        for name, deed in TWO.items():
            self.assertEqual(set(self.told(deed)), CHANGES[name], name)

    def test_numbers_of_edges(self):
        for name, expected in (
                ("join", {(1, 0, 1, 0, 0): 1}), ("bridge", {(-1, 0, 1, -1, 0): 2, (-1, 0, 1, 0, 1): 1}),
                ("merge", {(-1, 0, -1, 0, 0): 2}), ("cut", {(1, 0, -1, 1, 0): 3, (1, 0, -1, 0, -1): 2}),
                ("erase", {(-1, -2, -1, -1, 0): 1}), ("prune", {(0, -1, -1, 0, 0): 2}),
                ("swapii", {(1, 1, 0, 1, 0): 2, (1, 1, 0, 0, -1): 2}),
                ("swapoo", {(-1, -1, 0, -1, 0): 2, (-1, -1, 0, 0, 1): 2})):
            self.assertEqual(self.told(TWO[name]), expected, name)

    def test_corners_parted_and_made_one(self):
        self.assertEqual(self.told(read_routine(PART)), {(0, 1, 1, 0, 0): 1})
        self.assertEqual(set(self.told(read_routine(UNPART))), {(0, -1, -1, 0, 0)})

    def test_pieces_made_and_taken_away(self):
        stick = ["make p q", "p.next = q", "p.prev = q", "q.next = p", "q.prev = p", "new face f", "round p.face = f",
                 "f.some = p", "new corner u", "p.corner = u", "u.some = p", "new corner v", "q.corner = v",
                 "v.some = q"]
        self.assertEqual(self.told(routine("a", *stick)), {(1, 2, 1, 1, 0): 1})
        loop = ["make p q", "p.next = p", "p.prev = p", "q.next = q", "q.prev = q", "new corner u",
                "round p.corner = u", "u.some = p", "new face f", "p.face = f", "f.some = p", "new face g",
                "q.face = g", "g.some = q"]
        self.assertEqual(self.told(routine("a", *loop)), {(2, 1, 1, 1, 0): 1})
        self.assertEqual(self.told(TWO["erase"]), {(-1, -2, -1, -1, 0): 1})

    def test_blocks(self):
        # A spur in one case, nothing in another one, a spur taken away in a third one.
        lines = ["if a.next == a.twin", "if a.prev == a.twin", "else", "let t = a.twin", "let p = a.prev",
                 "let k = t.next", "let f = a.face", "let u = a.corner", "let v = t.corner", "p.next = k",
                 "k.prev = p", "drop t", "drop v", "f.some = p", "u.some = k", "end", "end"]
        with self.assertRaises(MeshError):
            read_routine("\n".join(["routine deep a"] + lines + ["let z = a"]))
        self.assertEqual(self.told(routine("a", *lines)), {(0, -1, -1, 0, 0): 2, (0, 0, 0, 0, 0): 1})
        nested = ["if a.face == b.face", "if a.corner == b.corner", "if a != b", "let c = a.prev.prev.prev.prev",
                  "end", "end", "end"]
        self.assertEqual(self.told(routine("a b", *nested)), {(0, 0, 0, 0, 0): 1})

    def test_facts_that_need_edges(self):
        for many in range(1, 5):
            facts = [f"given {'a' + '.next' * at} != a" for at in range(1, many + 1)]
            lines = samples.SPUR.split("\n")
            deed = read_routine("\n".join(lines[:1] + facts + lines[1:]))
            self.assertEqual(self.told(deed), {(0, 1, 1, 0, 0): (many + 2) // 2})
        lines = samples.SPUR.split("\n")
        deed = read_routine("\n".join(lines[:1] + LARGE + lines[1:]))
        (change, mesh, halves), = changes(deed)
        self.assertEqual((change, looking.result(deed, mesh, halves)), ((0, 1, 1, 0, 0), change))
        self.assertTrue(4 < mesh.edges <= 30)

    def test_pieces_that_are_known_as_a_whole(self):
        # What is no piece of its own may be in the piece of another half, but not in a known one.
        lines = samples.RIGHT["swapoo"].split("\n")
        stick = ["given a.next == a.twin", "given a.prev == a.twin"]
        loop = ["given a.next == a", "given a.twin.next == a.twin"]
        for facts, expected in ((stick, {(-1, -1, 0, -1, 0): 2}), (loop, {(-1, -1, 0, -1, 0): 2}),
                                (stick[:1], {(-1, -1, 0, -1, 0): 2, (-1, -1, 0, 0, 1): 2}),
                                (loop[:1], {(-1, -1, 0, -1, 0): 2, (-1, -1, 0, 0, 1): 2})):
            deed = read_routine("\n".join(lines[:1] + facts + lines[1:]))
            self.assertEqual(self.told(deed), expected, facts)

    def test_changes_that_need_five_edges(self):
        # Two pieces with so many corners have fewer edges than one with as many and two faces.
        lines = samples.RIGHT["swapoo"].split("\n")
        apart, joined = (-1, -1, 0, -1, 0), (-1, -1, 0, 0, 1)
        for first, second, edges in ((2, 1, 2), (2, 2, 2), (3, 2, 3), (3, 3, 4)):
            facts = unlike(row_of("a", first) + row_of("b", second))
            told = self.told(read_routine("\n".join(lines[:1] + facts + lines[1:])))
            self.assertEqual(set(told), {apart, joined})
            self.assertEqual(told[apart], edges)
            corners = first + second
            if corners < 5:
                self.assertEqual(told[joined], max(corners, 2))
            else:
                self.assertTrue(corners <= told[joined] <= 30, told)

    def test_without_a_line(self):
        for name, line in (("join", "given a != b"), ("merge", "drop g"), ("cut", "u.some = k"), ("halve", "else")):
            self.assertEqual(self.wrong(Breaks, without(name, line)), 3 if name == "cut" else 2 if name == "merge" else 1)
        self.wrong(NeverGiven, routine("a", "given a != a"))
        self.wrong(NeverGiven, routine("a b", "given a == b", "given a.face != b.face", "drop a"))
        edges = self.wrong(Breaks, routine("a", *LARGE, "drop a"))
        self.assertGreater(edges, 4)
        self.assertEqual(self.told(without("bridge", "g.some = p")), self.told(TWO["bridge"]))


class Scripts(Changed):
    def test_two_calls(self):
        for expected, halves, *lines in (
                ({(2, 0, 2, 0, 0)}, "a b", "given a.face == b.face", "given a != b", "call p = join a b",
                 "call join p b"),
                ({(0, 0, 0, 0, 0)}, "a b", "given a.face == b.face", "given a != b", "call p = join a b",
                 "call merge p"),
                ({(-1, 1, 2, -1, 0), (-1, 1, 2, 0, 1)}, "a b", "given a.face != b.face", "call p q = bridge a b",
                 "call spur q"),
                ({(0, 0, 0, 0, 0)}, "a b", "given a.face != b.face", "call p q = bridge a b", "call cut p"),
                ({(0, 2, 2, 0, 0)}, "a", "call p q c = spur a", "call halve q")):
            self.assertEqual(set(self.told(script(halves, *lines))), expected, lines)

    def test_wrong_scripts(self):
        self.assertEqual(self.wrong(Breaks, script("a b", "call p = join a b")), 1)
        self.wrong(NeverGiven, script("a b", "given a.next == b", "given a.face != b.face", "call p = join a b"))

    def test_chains(self):
        seen = {}
        for seed in range(160):
            deed = script(*drawing.drawn_chain(seed + 3000))
            if looking.is_within_limits(deed):
                try:
                    told = self.told(deed, seed)
                except (Breaks, NeverGiven):
                    continue
                seen[len(told)] = seen.get(len(told), 0) + 1
        self.assertTrue(seen.get(1, 0) > 10 and seen.get(2, 0) > 5, seen)


class Drawn(Changed):
    def test_changed_routines(self):
        seen = {}
        for seed in range(260):
            draws = drawing.Draws(seed + 900)
            lines = drawing.changed_lines(draws, draws.pick([deed.lines for deed in TWO.values()]))
            if plain.fault_of_routine("\n".join(lines)) is None:
                deed = read_routine("\n".join(lines))
                if looking.is_within_limits(deed):
                    try:
                        self.told(deed, seed)
                        one = None
                    except (Breaks, NeverGiven) as error:
                        one = type(error)
                        self.wrong(one, deed)
                    seen[one] = seen.get(one, 0) + 1
        self.assertTrue(seen[None] > 30 and seen[Breaks] > 30, seen)

    def test_results_are_new(self):
        deed = TWO["cut"]
        first, second = changes(deed), changes(deed=deed)
        for _, _, halves in first:
            halves.append(9)
        first.clear()
        self.assertEqual([halves for _, _, halves in second], [halves for _, _, halves in changes(deed)])
        self.assertEqual(len({id(halves) for _, _, halves in second}), len(second))
        self.assertIs(type(second), list)
        self.assertIs(type(second[0]), tuple)


if __name__ == "__main__":
    unittest.main()
