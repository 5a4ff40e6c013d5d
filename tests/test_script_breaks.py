"""Points 6, 21, 25 and 32: where scripts break."""

import unittest

from halfmeshes.books import read_book
from halfmeshes.errors import Broken
from halfmeshes.judging import breaks
from halfmeshes.likeness import small_meshes
from halfmeshes.runs import run
from tests import drawing, looking, samples
from tests.looking import BREAKS
from tests.test_breaks import Judged

MORE = """routine keeps a b
let f = a.face
f.some = b

routine keepc a b
let f = a.corner
f.some = b

routine trades a b
given a.face != b.face
let f = a.face
let g = b.face
round a.face = g
round b.face = f
f.some = b
g.some = a

routine repaint2 a
let f = a.face
f.some = a
new face g
round a.face = g
g.some = a
drop f
g.some = a

routine apart a b
given a.face != b.face

routine alike a b
given a.face == b.face

routine apartc a b
given a.corner != b.corner

routine alikec a b
given a.corner == b.corner

routine ifalike a b
if a.face == b.face
drop a
end"""
BOOK = samples.BOOK + "\n\n" + MORE


def script(halves, *lines, above=BOOK):
    text = above + f"\n\nscript try {halves}" + "".join("\n" + line for line in lines)
    return read_book(text)["try"]


class Known(Judged):
    def gives(self, verdict, halves, *lines):
        self.assertEqual(self.check(script(halves, *lines), len(lines)), verdict, lines)

    def fault(self, expected, halves, *lines):
        """The faults of a script on all meshes with one and two edges."""
        deed = script(halves, *lines)
        found = set()
        for mesh, passed in looking.ALL_ROWS[len(deed.halves)]:
            try:
                run(deed, mesh, passed)
            except Broken as error:
                found.add((error.fault, error.line))
            except ValueError:
                pass
        self.assertEqual(found, expected)

    def test_right_scripts(self):
        book = read_book(samples.BOOK)
        for name in ("twice", "grow", "back", "walk"):
            self.assertIsNone(self.check(book[name], 1), name)
        self.gives(None, "a")
        self.gives(None, "a b", "let c = a.next.twin", "tell c b a")
        self.gives(None, "a b", "given a.face != b.face", "call x y = bridge a b", "call alike x a")

    def test_halves_that_were_dropped(self):
        self.gives(1, "a", "call x = join a a")
        self.gives(1, "a", "given a.next == a.twin", "given a.prev == a.twin", "call erase a", "tell a")
        self.gives(None, "a", "given a.next == a.twin", "given a.prev == a.twin", "call erase a")
        self.gives(1, "a b", "given a.next == a.twin", "given a.prev == a.twin", "call erase a", "let c = b.next")
        self.gives(None, "a b", "given a.next == a.twin", "given a.prev == a.twin", "given b != a", "given b != a.twin",
                   "call erase a", "let c = b.next")

    def test_facts_of_a_called_routine(self):
        self.gives(None, "a b", "given a != b", "given a.face == b.face", "call x = join a b", "call apart a b")
        self.gives(1, "a b", "given a != b", "given a.face == b.face", "call x = join a b", "call alike a b")
        self.gives(1, "a b", "call alike a b")
        self.gives(1, "a b", "call apart a b")
        self.gives(None, "a b", "given a.face == b.face", "call alike b a")
        self.gives(None, "a b", "given a.corner != b.corner", "call apartc b a")
        self.gives(1, "a b", "given a.corner != b.corner", "call alikec b a")
        self.fault({("facts", 2)}, "a b", "call alike a b")

    def test_only_where_halves_are_alike_or_not(self):
        self.gives(1, "a b", "call ifalike a b")
        self.gives(None, "a b", "given a.face != b.face", "call ifalike a b")
        self.gives(1, "a b", "given a.corner == b.corner", "call ifalike a b")
        self.gives(1, "a b", "given a.face != b.face", "call x y = bridge a b", "call ifalike a b")
        self.gives(None, "a b", "given a.face == b.face", "given a != b", "call x = join a b", "call ifalike a b")

    def test_labels_that_refer_to_halves(self):
        # What a routine writes with .some must be borne at its end; then nobody knows it any more.
        self.gives(1, "a b", "call keeps a b")
        self.gives(None, "a b", "given a.face == b.face", "call keeps a b")
        self.gives(1, "a b", "given a.corner != b.corner", "call keepc a b")
        self.gives(None, "a b", "given a.corner == b.corner", "call keepc a b", "call keepc b a")
        self.gives(None, "a b", "given a.face != b.face", "call trades a b", "call trades a b", "call trades b a")
        self.gives(None, "a", "call repaint2 a", "call repaint2 a")
        self.gives(None, "a b", "given a.face == b.face", "given a != b", "call x = join a b", "call keeps x b",
                   "call keeps b x")
        self.gives(1, "a b", "given a.face == b.face", "given a != b", "call x = join a b", "call keeps x a")

    def test_facts_that_contradict_each_other(self):
        self.gives("NeverGiven", "a b", "given a == b", "given a.face != b.face", "call apart a b")
        self.gives("NeverGiven", "a", "given a.twin == a")

    def test_new_halves(self):
        self.gives(None, "a", "call p q c = spur a", "call x = join p q", "call merge x")
        self.gives(None, "a", "call p q c = spur a", "call r = prune p", "tell r a")
        self.gives(1, "a", "call p q c = spur a", "call r = prune q")
        self.gives(1, "a", "call p q c = spur a", "call r = prune p", "tell q")
        self.gives(1, "a", "call p q c = spur a", "call merge p")
        self.gives(None, "a", "call h = halve a", "call i = halve h", "tell i h a")

    def test_one_call_undoes_another(self):
        for name, above in (("swapii", "given a != b"), ("swapoo", "given a.next.corner != b.next.corner")):
            equal = "==" if name == "swapii" else "!="
            facts = [f"given a.face {equal} b.face", f"given a.next.corner {equal} b.next.corner", above]
            back = {"swapii": "swapoo", "swapoo": "swapii"}[name]
            self.gives(None, "a b", *facts, f"call {name} a b", f"call {back} a b")
            self.gives(2, "a b", *facts, f"call {name} a b", f"call {name} a b")


class Drawn(Judged):
    def test_drawn_books(self):
        seen = {}
        for seed in range(260):
            deeds = drawing.drawn_book(seed + 400)
            book = read_book(drawing.book_text(deeds))
            for name in book.names():
                deed = book[name]
                if deeds[name][0].startswith("script ") and looking.is_within_limits(deed):
                    verdict = self.check(deed, seed)
                    seen[verdict] = seen.get(verdict, 0) + 1
        self.assertTrue(min(seen.get(one, 0) for one in (None, 1)) > 40 and seen.get(2, 0) > 2, seen)

    def test_scripts_of_one_call(self):
        # A script that calls a routine with its own facts breaks where the routine does.
        for name, text in samples.RIGHT.items():
            lines = text.split("\n")
            halves = " ".join(lines[0].split(" ")[2:])
            facts = [line for line in lines if line.startswith("given ")]
            if len(halves) < 4 and name != "ask":
                self.assertIsNone(self.check(script(halves, *facts, f"call {name} {halves}"), 3), name)
                for fact in facts:
                    fewer = [line for line in facts if line != fact]
                    verdict = self.check(script(halves, *fewer, f"call {name} {halves}"), 5)
                    self.assertIsInstance(verdict, int)

    def test_chains(self):
        # Compared with runs on all small meshes, one after the other.
        seen = {}
        for seed in range(400):
            deed = script(*drawing.drawn_chain(seed))
            if looking.is_within_limits(deed):
                verdict = self.check(deed, seed)
                seen[verdict] = seen.get(verdict, 0) + 1
                if verdict in (2, 3, 4):
                    self.assertFalse([1 for edges in range(1, verdict)
                                      for mesh, halves in small_meshes(edges, len(deed.halves))
                                      if looking.result(deed, mesh, halves) == BREAKS])
        self.assertTrue(min(seen.get(one, 0) for one in (None, 1, 2)) > 8 and sum(seen.values()) > 150, seen)


if __name__ == "__main__":
    unittest.main()
