"""Points 18, 20, 22 and 25: runs of scripts."""

import unittest

from halfmeshes.books import read_book
from halfmeshes.errors import Broken, FactFails, MeshError
from halfmeshes.meshes import Mesh, read_mesh
from halfmeshes.runs import run
from tests import checks, drawing, plain, samples

LOOP = [0, 1]
STICK = [1, 0]
TORUS = [2, 3, 1, 0]
SQUARE = [2, 3, 0, 1]

# Routines that break in each way, and one that looks at what another one has written.
BREAKING = """routine dead a
drop a
tell a

routine unset a
make p q
let b = p.next

routine links a
drop a

routine faces a
let f = a.face
new face g
round a.face = g
g.some = a

routine corners a
new corner k

routine keeps a b
let f = a.face
f.some = b

routine trades a b
given a.face != b.face
let f = a.face
let g = b.face
a.face = g
b.face = f
f.some = b
g.some = a"""


class Scripts(unittest.TestCase):
    def gives(self, lines, nexts, halves, *expected, above=samples.BOOK + "\n\n" + BREAKING):
        text = above + "\n\n" + "\n".join(lines)
        deeds = {part.split(" ")[1]: part.split("\n") for part in text.split("\n\n")}
        script = read_book(text)[lines[0].split(" ")[1]]
        self.assertEqual(checks.ran(script, nexts, halves), expected, lines)
        self.assertEqual(plain.plain_run(lines, nexts, halves, deeds), expected, lines)


class Outcomes(Scripts):
    def test_without_calls(self):
        for nexts in (LOOP, STICK, TORUS, SQUARE):
            kept = {half: half for half in range(len(nexts))}
            self.gives(["script do a"], nexts, [1], "Outcome", nexts, kept, [])
            self.gives(["script do a b", "tell b a b"], nexts, [1, 0], "Outcome", nexts, kept, [0, 1, 0])
        self.gives(["script do a", "let b = a.next.next.twin.prev", "let c = b.twin", "tell c b"], TORUS, [0],
                   "Outcome", TORUS, {0: 0, 1: 1, 2: 2, 3: 3}, [2, 3])

    def test_twice(self):
        self.gives(["script do a b", "given a.face == b.face", "given a != b", "call p = join a b", "call join p b"],
                   STICK, [0, 1], "Outcome", [3, 4, 5, 0, 1, 2], {0: 0, 1: 1}, [])

    def test_halves_stay_the_same(self):
        # Halves 0 and 1 are dropped, so all others get lower numbers.
        lines = ["script do a b", "let c = b.twin", "call erase a", "tell b c"]
        self.gives(lines, [1, 0, 2, 3, 5, 4], [1, 4], "Outcome", [0, 1, 3, 2], {2: 0, 3: 1, 4: 2, 5: 3}, [2, 3])
        lines = ["script do a b", "call p q c = spur b", "let d = q.next", "call erase a", "call x y z = spur q",
                 "tell q x d"]
        self.gives(lines, [1, 0, 2, 3], [0, 3], "Outcome", [0, 2, 4, 1, 5, 3], {2: 0, 3: 1}, [3, 4, 1])

    def test_old_edges_come_ahead_of_new_ones(self):
        lines = ["script do a", "call p q c = spur a", "call k = prune p", "call s t c2 = spur a", "tell s k a"]
        self.gives(lines, STICK, [0], "Outcome", [1, 2, 3, 0], {0: 0, 1: 1}, [2, 0, 0])
        lines = ["script do a", "call p q c = spur a", "call r s t = spur q", "call x = prune r", "tell p q x"]
        self.gives(lines, LOOP, [0], "Outcome", [2, 1, 3, 0], {0: 0, 1: 1}, [2, 3, 3])

    def test_all_halves_dropped(self):
        self.gives(["script do a", "call erase a"], STICK, [0], "Outcome", [], {}, [])
        self.gives(["script do a b", "call erase a", "call erase b"], [1, 0, 3, 2], [3, 0], "Outcome", [], {}, [])

    def test_names_in_two_roles(self):
        above = "routine tells tells b\ntell b tells\n\nroutine do a\nlet do = a.next\ntell do"
        self.gives(["script s do s", "call tells b = tells do s", "call r = do tells", "tell r tells b"],
                   SQUARE, [0, 1], "Outcome", SQUARE, {0: 0, 1: 1, 2: 2, 3: 3}, [3, 1, 0], above=above)

    def test_equal_halves(self):
        self.gives(["script do a b", "call p q c = spur a", "call r s d = spur b", "tell c d r"], LOOP, [0, 0],
                   "Outcome", [2, 1, 3, 4, 5, 0], {0: 0, 1: 1}, [0, 0, 4])

    def test_some_is_not_known_to_the_next_call(self):
        # In the second call nobody knows to which half the label refers; it stays.
        self.gives(["script do a b", "call keeps a b", "call show a b a"], STICK, [0, 1], "Outcome", STICK,
                   {0: 0, 1: 1}, [])
        # Trading labels is right, since they are judged at the end of each call.
        self.gives(["script do a b", "call trades a b", "call trades a b"], LOOP, [0, 1], "Outcome", LOOP,
                   {0: 0, 1: 1}, [])

    def test_arguments_and_results(self):
        book = read_book(samples.BOOK)
        mesh, halves = Mesh([1, 0]), [0, 1]
        first, second = run(book["twice"], mesh, halves), run(deed=book["twice"], mesh=mesh, halves=halves)
        for outcome in (first, second):
            self.assertEqual(outcome.mesh.counts(), (3, 2, 3, 1, 0))
            self.assertEqual((outcome.kept, outcome.told), ({0: 0, 1: 1}, []))
            self.assertEqual((type(outcome.kept), type(outcome.told)), (dict, list))
            outcome.kept.clear()
            outcome.told.append(5)
        self.assertEqual((mesh.nexts(), halves), ([1, 0], [0, 1]))
        # Without calls the outcome has new lists, too.
        outcome = run(book["walk"], mesh, [0, 0])
        self.assertEqual((outcome.told, outcome.kept, outcome.mesh), ([0, 0, 0], {0: 0, 1: 1}, mesh))


class Errors(Scripts):
    def test_facts(self):
        lines = ["script do a b", "given a == b", "given a.next.face == b.twin.face", "given a.corner != a.twin.corner",
                 "call dead a"]
        self.gives(lines, LOOP, [0, 1], "FactFails", 2)
        self.gives(lines, LOOP, [1, 1], "FactFails", 3)
        self.gives(lines, TORUS, [1, 1], "FactFails", 4)
        self.gives(lines, STICK, [1, 1], "Broken", "dead", 5)

    def test_faults_of_calls(self):
        for name in ("dead", "unset", "links", "faces", "corners"):
            nexts = STICK if name == "faces" else SQUARE
            self.gives(["script do a", f"call {name} a", "tell a"], nexts, [0], "Broken", name, 2)
            self.gives(["script do a", "let b = a.next", "call p q c = spur b", f"call {name} b", "call dead a"],
                       nexts, [0], "Broken", name, 4)

    def test_facts_of_calls(self):
        lines = ["script do a b", "given a != b", "let c = a", "call join a b", "call join a c"]
        self.gives(lines, STICK, [0, 1], "Broken", "facts", 5)
        self.gives(lines, LOOP, [0, 1], "Broken", "facts", 4)
        self.gives(lines, LOOP, [0, 0], "FactFails", 2)

    def test_dead_halves(self):
        for line in ("let c = a", "let c = t.next", "call show b a b", "call p q r = spur t", "call prune a",
                     "call join t b", "tell a", "tell b t"):
            lines = ["script do a b", "let t = a.twin", "call erase a", line]
            self.gives(lines, [1, 0, 2, 3], [0, 2], "Broken", "dead", 4)
            lines.insert(3, "call x y z = spur b")
            self.gives(lines, [1, 0, 2, 3], [0, 2], "Broken", "dead", 5)

    def test_dead_comes_ahead_of_facts_and_faults(self):
        lines = ["script do a b", "call erase a", "call join b a"]
        self.gives(lines, [1, 0, 2, 3], [0, 2], "Broken", "dead", 3)

    def test_dropped_numbers_are_not_used_again(self):
        # The new edge takes the place of the dropped one in the mesh, but not its names.
        lines = ["script do a", "call p q c = spur a", "call k = prune p", "call r s d = spur a", "tell r s a"]
        self.gives(lines, LOOP, [1], "Outcome", [0, 2, 3, 1], {0: 0, 1: 1}, [2, 3, 1])
        self.gives(lines[:-1] + ["tell p"], LOOP, [1], "Broken", "dead", 5)
        self.gives(lines[:-1] + ["let x = q.next"], LOOP, [1], "Broken", "dead", 5)

    def test_errors(self):
        book = read_book(samples.BOOK)
        with self.assertRaises(FactFails) as caught:
            run(book["twice"], Mesh([1, 0]), [1, 1])
        self.assertEqual(vars(caught.exception), {"line": 3})
        with self.assertRaises(Broken) as caught:
            run(book["remove"], Mesh([2, 3, 0, 1]), [1])
        self.assertEqual(vars(caught.exception), {"fault": "facts", "line": 3})
        self.assertIsInstance(caught.exception, MeshError)
        with self.assertRaises(Broken) as caught:
            run(book["remove"], Mesh([1, 0]), [1])
        self.assertEqual(vars(caught.exception), {"fault": "dead", "line": 4})


class CallByCall(Scripts):
    def calls(self, book, lines, nexts, halves):
        """What the calls do one behind another, or None if one of them raises an error."""
        mesh = Mesh(nexts)
        # Where the halves of the start and the named ones are, or None.
        kept = {half: half for half in range(len(nexts))}
        places = dict(zip(lines[0].split(" ")[2:], halves))
        for line in lines[1:]:
            words = line.split(" ")
            if words[0] == "let":
                start, *links = words[3].split(".")
                half = places[start]
                for link in links:
                    step = {"next": mesh.after, "prev": mesh.before, "twin": mesh.twin}[link]
                    half = None if half is None else step(half)
                places[words[1]] = half
            elif words[0] == "call":
                behind = words[words.index("=") + 1:] if "=" in words else words[1:]
                new = words[1:words.index("=")] if "=" in words else []
                passed = [places[word] for word in behind[1:]]
                if None in passed:
                    return None
                try:
                    outcome = run(book[behind[0]], mesh, passed)
                except (FactFails, Broken):
                    return None
                mesh = outcome.mesh
                places = {name: outcome.kept.get(half) for name, half in places.items()}
                kept = {old: outcome.kept[half] for old, half in kept.items() if half in outcome.kept}
                places.update(zip(new, outcome.told))
        told = [places[word] for word in plain.told_by(lines)]
        return None if None in list(places.values()) else ("Outcome", mesh.nexts(), kept, told)

    def test_drawn_scripts(self):
        seen = {}
        long = alike = 0
        for seed in range(1500):
            deeds = drawing.drawn_book(seed)
            book = read_book(drawing.book_text(deeds))
            draws = drawing.Draws(seed)
            for name in book.names():
                if deeds[name][0].startswith("script "):
                    nexts = drawing.draw_mesh(draws)
                    halves = drawing.draw_halves(draws, nexts, len(book[name].halves))
                    result = checks.ran(book[name], nexts, halves)
                    expected = plain.plain_run(deeds[name], nexts, halves, deeds)
                    self.assertEqual(result, expected, (drawing.book_text(deeds), name, nexts, halves))
                    self.assertEqual(checks.ran(book[name], nexts, halves), expected)
                    kind = result[:2] if result[0] == "Broken" else result[0]
                    seen[kind] = seen.get(kind, 0) + 1
                    long += result[0] == "Outcome" and len(deeds[name]) > 17
                    by_calls = self.calls(book, deeds[name], nexts, halves)
                    if result[0] == "Outcome" and by_calls is not None:
                        self.assertEqual(result, by_calls)
                        alike += 1
        for kind in ("Outcome", "FactFails", ("Broken", "facts"), ("Broken", "dead"), ("Broken", "links"),
                     ("Broken", "faces")):
            self.assertTrue(seen[kind] > 100, seen)
        self.assertTrue(long > 50 and alike > 500, (long, alike))

    def test_samples_on_drawn_meshes(self):
        book = read_book(samples.BOOK)
        deeds = {name: list(book[name].lines) for name in book.names()}
        for seed in range(250):
            draws = drawing.Draws(seed)
            for name in ("twice", "grow", "back", "remove", "walk"):
                nexts = drawing.draw_mesh(draws)
                halves = drawing.draw_halves(draws, nexts, len(book[name].halves))
                self.assertEqual(checks.ran(book[name], nexts, halves),
                                 plain.plain_run(deeds[name], nexts, halves, deeds))


class Texts(unittest.TestCase):
    """Points 6, 10, 17, 22, 24 and 25: from texts to texts."""

    def text(self, deed, mesh, halves):
        return run(read_book(samples.BOOK)[deed], read_mesh(mesh), halves).mesh.text()

    def test_routines(self):
        self.assertEqual(self.text("join", "0 1", [0, 1]), "0 3\n1 2")
        self.assertEqual(self.text("bridge", "0\n1", [0, 1]), "0 2 1 3")
        self.assertEqual(self.text("spur", "1\n0", [1]), "0\n1 2 3")
        self.assertEqual(self.text("cut", "3 0 2 1", [0]), "0\n1")
        self.assertEqual(self.text("erase", "1 0", [0]), "")
        self.assertEqual(self.text("swapoi", "0\n1", [0, 1]), "0 1")
        self.assertEqual(self.text("swapio", "1 0", [0, 1]), "0\n1")

    def test_scripts(self):
        self.assertEqual(self.text("twice", "1 0", [0, 1]), "0 3\n1 4\n2 5")
        self.assertEqual(self.text("grow", "1\n0", [0]), "0 2 4 5 9 7\n1\n3 6 8")
        self.assertEqual(self.text("back", "0 1", [0, 1]), "0 1")
        self.assertEqual(self.text("walk", "2 1 3 0", [3, 3]), "0 2 1 3")

    def test_texts_again(self):
        # The text of an outcome is that of a mesh that runs take again.
        book, text = read_book(samples.BOOK), "0 1"
        for at in range(12):
            for name in ("spur", "halve", "grow"):
                mesh = read_mesh(text)
                outcome = run(book[name], mesh, [at])
                text = outcome.mesh.text()
                self.assertEqual(read_mesh(text), outcome.mesh)
                self.assertGreater(outcome.mesh.edges, mesh.edges)


if __name__ == "__main__":
    unittest.main()
