"""Points 5, 12, 32, 35 and 36: deeds with the same effect, and needless lines."""

import unittest

from halfmeshes.books import read_book
from halfmeshes.comparing import needless, parting
from halfmeshes.errors import Breaks, FactFails, MeshError, NeverGiven
from halfmeshes.judging import breaks
from halfmeshes.likeness import renaming
from halfmeshes.meshes import Mesh
from halfmeshes.runs import run
from halfmeshes.texts import read_routine
from tests import drawing, helpers, looking, plain, samples
from tests.looking import BREAKS
from tests.test_breaks import LARGE, TWO, routine, without
from tests.test_changes import PART, UNPART
from tests.test_script_breaks import BOOK, script

# An edge between two halves of a face, made in other words and with other names.
OTHER_JOIN = """routine link x y
given y != x
given x.face == y.face
let f = x.face
let y1 = y.prev
let x1 = x.prev
let v = y.corner
let u = x.corner
make n m
y1.next = n
n.prev = y1
x.prev = n
n.next = x
y.prev = m
m.next = y
m.prev = x1
x1.next = m
new face g
round m.face = g
g.some = y
n.face = f
f.some = x
n.corner = v
m.corner = u"""


def has_same_effect(nexts, kept, other_nexts, other_kept):
    """Whether the effects are the same, for small meshes by going through all renamings that keep what remains."""
    if sorted(kept) != sorted(other_kept) or len(nexts) != len(other_nexts):
        return False
    pairs = [(kept[half], other_kept[half]) for half in kept]
    if len(nexts) > 8:
        return renaming(Mesh(nexts), Mesh(other_nexts), pairs) is not None
    return any(helpers.is_renaming(nexts, other_nexts, pairs, one) for one in helpers.bijections(len(nexts) // 2)
               if all(one[a] == b for a, b in pairs))


def differs(first, second, mesh, halves):
    """Whether the effects differ on a mesh, or None if a fact fails."""
    try:
        one, other = run(first, mesh, halves), run(second, mesh, halves)
    except FactFails:
        return None
    return not has_same_effect(one.mesh.nexts(), one.kept, other.mesh.nexts(), other.kept)


class Parted(unittest.TestCase):
    def verdict(self, first, second):
        """The number of edges of the told mesh, which is looked at, or None."""
        found = parting(first, second)
        if found is None:
            return None
        mesh, halves = found
        self.assertEqual((type(found), type(mesh), type(halves)), (tuple, Mesh, list))
        self.assertIs(differs(first, second, mesh, halves), True)
        for deed in (first, second):
            self.assertNotIn(looking.result(deed, mesh, halves), (BREAKS, looking.FAILS))
        self.assertLessEqual(mesh.edges, 30)
        return mesh.edges

    def check(self, first, second, seed=0):
        verdict = self.verdict(first, second)
        rows = looking.ALL_ROWS[len(first.halves)]
        if verdict is None:
            rows = rows + list(looking.drawn_rows(seed, len(first.halves)))
        for mesh, halves in rows[seed % 3::3 if seed else 1]:
            if verdict is None or mesh.edges < verdict:
                self.assertIsNot(differs(first, second, mesh, halves), True, (first.lines, second.lines))
        return verdict

    def wrong(self, kind, first, second, culprit=None):
        with self.assertRaises(MeshError) as caught:
            parting(first, second)
        self.assertIs(type(caught.exception), kind)
        if kind is Breaks:
            mesh, halves = caught.exception.mesh, caught.exception.halves
            self.assertEqual(looking.result(culprit, mesh, halves), BREAKS)
            self.assertEqual(mesh.edges, breaks(culprit)[0].edges)


class Known(Parted):
    def test_a_deed_and_itself(self):
        for name, deed in TWO.items():
            self.assertIsNone(self.check(deed, deed), name)
        book = read_book(samples.BOOK)
        for name in ("twice", "grow", "back", "walk"):
            self.assertIsNone(self.check(book[name], book[name]), name)

    def test_other_words(self):
        join = TWO["join"]
        self.assertIsNone(self.check(join, read_routine(OTHER_JOIN)))
        self.assertEqual(self.check(join, read_routine(OTHER_JOIN.replace("x y", "y x", 1))), None)
        swapped = OTHER_JOIN.replace("m.prev = x1", "m.prev = y1").replace("x1.next = m", "y1.next = m")
        swapped = swapped.replace("y1.next = n", "x1.next = n").replace("n.prev = y1", "n.prev = x1")
        self.wrong(Breaks, join, read_routine(swapped), read_routine(swapped))

    def test_different_effects(self):
        for edges, first, second in ((1, "spur", "halve"), (1, "join", "swapio"), (2, "join", "swapii"),
                                     (2, "bridge", "swapoo"), (1, "bridge", "swapoi"), (2, "cut", "halve"),
                                     (2, "merge", "spur"), (2, "prune", "spur"), (1, "erase", "halve")):
            self.assertEqual(self.check(TWO[first], TWO[second]), edges, (first, second))
        self.wrong(NeverGiven, TWO["join"], TWO["bridge"])
        self.wrong(NeverGiven, TWO["prune"], TWO["cut"])
        nothing = routine("a b", "given a.face == b.face", "given a != b")
        self.assertEqual(self.check(TWO["join"], nothing), 1)
        self.assertEqual(self.check(nothing, TWO["join"]), 1)
        self.assertIsNone(self.check(nothing, routine("x y", "let z = x.face", "z.some = x", "tell y")))

    def test_facts_of_one_deed_alone(self):
        for facts, edges in (([], 1), (["given a != b"], 1), (["given a.next != b"], 2),
                             (["given a.next != b", "given a.prev != b"], 2), (["given a == b"], "NeverGiven")):
            lines = list(TWO["join"].lines)
            nothing = routine("a b", *facts)
            if edges == "NeverGiven":
                self.wrong(NeverGiven, TWO["join"], nothing)
            else:
                self.assertEqual(self.check(TWO["join"], nothing), edges, lines)
        # The same but where the facts of the other one do not hold.
        spur = routine("a", *["if a.next == a.twin"] + samples.SPUR.split("\n")[1:3] + ["end"])
        self.assertIsNone(self.check(spur, routine("a", "given a.next != a.twin")))
        self.assertIsNone(self.check(routine("a", "given a.next == a", "let b = a.next"), routine("a")))

    def test_far_away(self):
        # The effects differ only where the facts hold, on large meshes.
        spur = read_routine("\n".join([samples.SPUR.split("\n")[0]] + LARGE + samples.SPUR.split("\n")[1:]))
        self.assertGreater(self.verdict(spur, routine("a")), 4)
        self.assertIsNone(self.verdict(spur, read_routine(samples.SPUR)))

    def test_halves_that_are_exchanged(self):
        # The new edge may be turned round, but where it lies must be the same.
        other = samples.SPUR.replace("make p q", "make q p").replace("routine spur", "routine rups")
        self.assertIsNone(self.check(TWO["spur"], read_routine(other)))
        behind = """routine behind a
let n = a.next
let g = a.face
let u = n.corner
make p q
a.next = p
p.prev = a
p.next = q
q.prev = p
q.next = n
n.prev = q
p.face = g
q.face = g
p.corner = u
new corner w
q.corner = w
w.some = q"""
        self.assertEqual(self.check(TWO["spur"], read_routine(behind)), 1)
        first = script("a", "call p q c = spur a")
        second = script("a", "let b = a.prev", "call behind b", above=BOOK + "\n\n" + behind)
        self.assertIsNone(self.check(first, second))

    def test_loops(self):
        loop = """routine loop a
let c = a.prev
let g = a.face
let u = a.corner
make p q
c.next = p
p.prev = c
p.next = a
a.prev = p
q.next = q
q.prev = q
p.face = g
p.corner = u
q.corner = u
new face f
q.face = f
f.some = q"""
        other = loop.replace("make p q", "make q p")
        self.assertIsNone(self.check(read_routine(loop), read_routine(loop)))
        self.assertIsNone(self.check(read_routine(loop), read_routine(other)))
        self.assertEqual(self.check(read_routine(other), TWO["spur"]), 1)

    def test_scripts_in_either_order(self):
        one = script("a b", "call p q c = spur a", "call r s d = spur b")
        other = script("a b", "call r s d = spur b", "call p q c = spur a")
        self.assertIsNone(self.check(one, other))
        one = script("a b", "given a.face == b.face", "given a != b", "call p = join a b", "call q s t = spur a")
        other = script("a b", "given a.face == b.face", "given a != b", "call q s t = spur a", "call p = join a b")
        self.assertEqual(self.check(one, other), 1)
        one = script("a b", "given a != b", "given a.face == b.face", "call halve a", "call p = join a b")
        other = script("a b", "given a != b", "given a.face == b.face", "call p = join a b", "call halve a")
        self.assertIsInstance(self.check(one, other), int)

    def test_a_routine_and_a_script_that_calls_it(self):
        for name, deed in TWO.items():
            facts = [line for line in deed.lines if line.startswith("given ")]
            halves = " ".join(deed.halves)
            self.assertIsNone(self.check(deed, script(halves, *facts, f"call {name} {halves}")), name)
        self.assertIsNone(self.check(script("a", "call p q c = spur a", "call r = prune p"), routine("a")))

    def test_pieces_made_and_taken_away(self):
        stick = ["make p q", "p.next = q", "p.prev = q", "q.next = p", "q.prev = p", "new face f", "round p.face = f",
                 "f.some = p", "new corner u", "p.corner = u", "u.some = p", "new corner v", "q.corner = v",
                 "v.some = q"]
        loop = ["make p q", "p.next = p", "p.prev = p", "q.next = q", "q.prev = q", "new corner u",
                "round p.corner = u", "u.some = p", "new face f", "p.face = f", "f.some = p", "new face g",
                "q.face = g", "g.some = q"]
        self.assertEqual(self.check(routine("a", *stick), routine("a", *loop)), 1)
        self.assertIsNone(self.check(routine("a", *stick), routine("b", *stick)))
        self.assertEqual(self.check(routine("a", *stick), routine("a")), 1)
        self.assertEqual(self.check(TWO["erase"], routine("a")), 1)
        once = script("a", "call erase a")
        facts = ["given a.next == a.twin", "given a.prev == a.twin"]
        self.assertIsNone(self.check(TWO["erase"], script("a", *facts, "call erase a")))
        self.wrong(Breaks, TWO["erase"], once, once)
        self.assertIsNone(self.check(TWO["erase"], script("a", *facts, "let b = a.next", "call erase b")))

    def test_part_and_unpart(self):
        part, unpart = read_routine(PART), read_routine(UNPART)
        self.assertIsNone(self.check(part, part))
        self.assertIsNone(self.check(unpart, unpart))
        self.assertEqual(self.check(unpart, routine("a")), 2)


class Wrong(Parted):
    def test_order_of_errors(self):
        good, never = routine("a"), routine("a", "given a.next == a", "given a.prev != a")
        one, two = routine("a", "drop a"), without("cut", "given a.prev != a.twin")
        self.wrong(Breaks, one, good, one)
        self.wrong(Breaks, good, two, two)
        self.wrong(Breaks, one, two, one)
        self.wrong(Breaks, two, one, two)
        for other in (good, one, two, never):
            self.wrong(NeverGiven, never, other)
            self.wrong(NeverGiven, other, never)
        # Each may hold, but not both.
        self.wrong(NeverGiven, routine("a b", "given a == b", "drop a"), routine("a b", "given a != b"))
        self.wrong(NeverGiven, routine("a", "given a.face == a.twin.face"), TWO["merge"])
        far = routine("a", *LARGE, "drop a")
        self.wrong(Breaks, good, far, far)
        broken = script("a b", "call p = join a b")
        self.wrong(Breaks, broken, broken, broken)
        # A deed that breaks only where the facts of the other do not hold breaks all the same.
        self.wrong(Breaks, routine("a", "given a.next == a"), routine("a", "if a.next != a", "drop a", "end"),
                   routine("a", "if a.next != a", "drop a", "end"))

    def test_needless(self):
        with self.assertRaises(NeverGiven):
            needless(routine("a", "given a.twin == a", "drop a"))
        deed = without("cut", "v.some = n")
        with self.assertRaises(Breaks) as caught:
            needless(deed)
        self.assertEqual(looking.result(deed, caught.exception.mesh, caught.exception.halves), BREAKS)
        self.assertEqual(caught.exception.mesh.edges, 3)


class Drawn(Parted):
    def test_drawn_pairs(self):
        seen = {}
        last = None
        for seed in range(500):
            draws = drawing.Draws(seed + 77)
            lines = list(draws.pick([deed.lines for deed in TWO.values()]))
            if draws.chance(1, 2):
                lines = drawing.changed_lines(draws, lines)
            if plain.fault_of_routine("\n".join(lines)) is not None:
                continue
            deed = read_routine("\n".join(lines))
            if last is not None and len(last.halves) == len(deed.halves) and looking.is_within_limits(last, deed):
                try:
                    verdict = self.check(last, deed, seed + 1)
                except MeshError as error:
                    verdict = type(error)
                    for mesh, halves in looking.ALL_ROWS[len(deed.halves)] * (verdict is NeverGiven):
                        self.assertIn(looking.FAILS, [looking.result(one, mesh, halves) for one in (last, deed)])
                seen[verdict] = seen.get(verdict, 0) + 1
            last = deed
        self.assertTrue(min(seen.get(one, 0) for one in (None, 1, Breaks, NeverGiven)) > 2, seen)


class Needless(unittest.TestCase):
    def check(self, deed):
        """The needless lines, each line being looked at."""
        found = needless(deed)
        self.assertEqual(found, sorted(set(found)))
        for at, line in enumerate(deed.lines):
            if at == 0 or line.split(" ")[0] in ("given", "if", "else", "end", "tell"):
                self.assertNotIn(at + 1, found)
                continue
            text = "\n".join(deed.lines[:at] + deed.lines[at + 1:])
            right = plain.fault_of_routine(text) is None
            if right:
                shorter = read_routine(text)
                right = breaks(shorter) is None and parting(deed, shorter) is None
            self.assertEqual(at + 1 in found, right, (deed.lines, at))
        return found

    def test_right_routines(self):
        for name, expected in (("join", []), ("bridge", [19]), ("merge", []), ("spur", []), ("repaint", [])):
            self.assertEqual(self.check(TWO[name]), expected, name)
        for deed in TWO.values():
            self.check(deed)
        self.assertEqual(needless(routine=routine("a")), [])
        self.assertEqual(self.check(routine("a", "let b = a.next", "let c = b.next", "let d = c")), [4])

    def test_lines_doubled_and_exchanged(self):
        lines = samples.JOIN.split("\n")
        for at in range(9, 17):
            doubled = lines[:at + 1] + lines[at:]
            self.assertEqual(self.check(read_routine("\n".join(doubled))), [at + 1, at + 2])
            moved = lines[:9] + lines[at:17] + lines[9:at] + lines[17:]
            self.assertEqual(self.check(read_routine("\n".join(moved))), [])

    def test_links_that_are_written_as_they_are(self):
        self.assertEqual(self.check(routine("a", "let b = a.next", "a.next = b", "b.prev = a", "tell a b")), [3, 4])
        self.assertEqual(self.check(routine("a", "let b = a.next", "b.prev = a", "let f = b.face", "b.face = f")),
                         [3, 5])
        # One of them alone may not be left out.
        self.assertEqual(self.check(routine("a b", "given a.next == b", "a.next = b", "a.next = b")), [3, 4])
        self.assertEqual(self.check(routine("a b", "let c = a.next", "a.next = b", "a.next = c", "tell a")), [3])

    def test_blocks(self):
        self.assertEqual(self.check(routine("a b", "if a == b", "let c = a.next", "c.prev = a", "else", "let c = b",
                                            "end", "let d = a")), [4, 6, 8])

    def test_drawn(self):
        many = 0
        for seed in range(70):
            draws = drawing.Draws(seed + 31)
            lines = list(draws.pick([deed.lines for deed in TWO.values()]))
            at = 1 + draws.below(len(lines) - 1) if len(lines) > 1 else 0
            lines.insert(at, draws.pick([lines[at], "let z = a", "let z = a.face", "let z = a.next"]))
            if plain.fault_of_routine("\n".join(lines)) is None:
                deed = read_routine("\n".join(lines))
                if looking.is_within_limits(deed):
                    try:
                        many += bool(self.check(deed))
                    except (Breaks, NeverGiven):
                        continue
        self.assertGreater(many, 15)


if __name__ == "__main__":
    unittest.main()
