"""Points 4 and 18 to 22: runs of routines, by hand."""

import unittest

from halfmeshes.errors import Broken, FactFails, MeshError
from halfmeshes.meshes import Mesh
from halfmeshes.runs import run
from halfmeshes.texts import read_routine
from tests import checks, plain, samples

LOOP = [0, 1]       # one edge, two faces, one corner
STICK = [1, 0]      # one edge, one face, two corners
TORUS = [2, 3, 1, 0]
SQUARE = [2, 3, 0, 1]
TRIANGLE = [2, 5, 4, 1, 0, 3]


class Runs(unittest.TestCase):
    def gives(self, lines, nexts, halves, *expected):
        """The run does this; the plain run of the tests must agree."""
        text = lines if isinstance(lines, str) else "\n".join(lines)
        self.assertEqual(checks.ran(read_routine(text), nexts, halves), expected, text)
        self.assertEqual(plain.plain_run(text.split("\n"), nexts, halves), expected, text)

    def gives_broken(self, lines, nexts, halves, fault, line):
        self.gives(["routine r a b"] + lines, nexts, halves, "Broken", fault, line)

    def gives_same(self, lines, nexts, halves, told=()):
        kept = {half: half for half in range(len(nexts))}
        self.gives(["routine r a b"] + lines, nexts, halves, "Outcome", nexts, kept, list(told))


class Outcomes(Runs):
    def test_join(self):
        self.gives(samples.JOIN, STICK, [0, 1], "Outcome", [3, 2, 1, 0], {0: 0, 1: 1}, [2])
        self.gives(samples.JOIN, TORUS, [0, 3], "Outcome", [2, 5, 1, 4, 3, 0],
                   {0: 0, 1: 1, 2: 2, 3: 3}, [4])

    def test_nothing(self):
        for nexts in ([0, 1], [1, 0], TORUS, SQUARE, TRIANGLE):
            self.gives("routine plain plain", nexts, [1], "Outcome", nexts,
                       {half: half for half in range(len(nexts))}, [])
            self.gives_same(["tell b a b"], nexts, [1, 0], [0, 1, 0])

    def test_numbers(self):
        # Edges 0, 2 and 4 remain, edges 1 and 3 are dropped; the last one is new.
        mesh = [1, 0, 3, 2, 5, 4, 7, 6, 9, 8]
        lines = ["routine r a b", "let f = a.face", "let g = b.face", "let u = a.corner", "let v = a.twin.corner",
                 "let w = b.corner", "let x = b.twin.corner", "make p q", "make s t", "drop q", "s.next = t",
                 "s.prev = t", "t.next = s", "t.prev = s", "drop a", "drop b", "drop f", "drop g", "drop u",
                 "drop v", "drop w", "drop x", "new face h", "s.face = h", "t.face = h", "h.some = t",
                 "new corner k", "s.corner = k", "k.some = s", "new corner l", "t.corner = l", "l.some = t",
                 "tell t s t"]
        self.gives(lines, mesh, [3, 6], "Outcome", [1, 0, 3, 2, 5, 4, 7, 6],
                   {0: 0, 1: 1, 4: 2, 5: 3, 8: 4, 9: 5}, [7, 6, 7])

    def test_two_new_edges_are_numbered_as_made(self):
        lines = ["routine r a"]
        for p, q in (("p", "q"), ("s", "t")):
            lines += [f"make {p} {q}", f"{p}.next = {p}", f"{p}.prev = {p}", f"{q}.next = {q}", f"{q}.prev = {q}"]
        for half in "tqps":
            lines += [f"new face f{half}", f"{half}.face = f{half}", f"f{half}.some = {half}"]
        for p, q in ("qp", "ts"):
            lines += [f"new corner c{p}", f"{p}.corner = c{p}", f"{q}.corner = c{p}", f"c{p}.some = {p}"]
        self.gives(lines + ["tell q s p"], LOOP, [1], "Outcome", [0, 1, 2, 3, 4, 5], {0: 0, 1: 1}, [3, 4, 2])

    def test_all_halves_dropped(self):
        self.gives(samples.ERASE, STICK, [1], "Outcome", [], {}, [])
        self.gives(samples.ERASE, [1, 0, 2, 3], [0], "Outcome", [0, 1], {2: 0, 3: 1}, [])

    def test_known_results(self):
        self.gives(samples.SPUR, LOOP, [1], "Outcome", [0, 2, 3, 1], {0: 0, 1: 1}, [2, 3, 1])
        self.gives(samples.HALVE, STICK, [0], "Outcome", [2, 0, 3, 1], {0: 0, 1: 1}, [2])
        self.gives(samples.HALVE, LOOP, [0], "Outcome", [2, 3, 0, 1], {0: 0, 1: 1}, [2])
        self.gives(samples.BRIDGE, LOOP, [0, 1], "Outcome", [2, 3, 1, 0], {0: 0, 1: 1}, [3, 2])
        self.gives(samples.CUT, TORUS, [0], "Outcome", [0, 1], {2: 0, 3: 1}, [])
        self.gives(samples.PRUNE, [0, 2, 3, 1], [2], "Outcome", LOOP, {0: 0, 1: 1}, [1])
        self.gives(samples.MERGE, SQUARE, [0], "Outcome", STICK, {2: 0, 3: 1}, [0, 1])

    def test_arguments_and_results(self):
        routine, mesh, halves = read_routine(samples.SPUR), Mesh([1, 0]), [1]
        first = run(routine, mesh, halves)
        second = run(deed=routine, mesh=mesh, halves=halves)
        for outcome in (first, second):
            self.assertEqual(outcome.mesh.nexts(), [2, 0, 3, 1])
            self.assertEqual((outcome.kept, outcome.told), ({0: 0, 1: 1}, [2, 3, 1]))
            self.assertEqual((type(outcome.kept), type(outcome.told)), (dict, list))
            self.assertIsInstance(outcome.mesh, Mesh)
            outcome.kept.clear()
            outcome.told.append(7)
        self.assertEqual((mesh.nexts(), halves), ([1, 0], [1]))
        self.assertEqual(checks.ran(routine, [1, 0], [1]), ("Outcome", [2, 0, 3, 1], {0: 0, 1: 1}, [2, 3, 1]))
        self.assertEqual(routine.told, ("p", "q", "a"))

    def test_errors(self):
        with self.assertRaises(FactFails) as caught:
            run(read_routine(samples.JOIN), Mesh([1, 0]), [0, 0])
        self.assertEqual(vars(caught.exception), {"line": 3})
        self.assertIsInstance(caught.exception, MeshError)
        with self.assertRaises(Broken) as caught:
            run(read_routine("routine bad a\nlet b = a.next\na.next = a"), Mesh([1, 0]), [0])
        self.assertEqual(vars(caught.exception), {"fault": "links", "line": 4})
        self.assertIsInstance(caught.exception, MeshError)


class Facts(Runs):
    def test_the_first_one(self):
        lines = ["routine r a b", "given a == b.twin", "given a.face == b.face", "given a.corner != b.corner"]
        self.gives(lines, STICK, [0, 0], "FactFails", 2)
        self.gives(lines, LOOP, [0, 1], "FactFails", 3)
        self.gives(lines, TORUS, [0, 1], "FactFails", 4)
        self.gives(lines, STICK, [0, 1], "Outcome", STICK, {0: 0, 1: 1}, [])

    def test_each_form(self):
        # A fact holds, or the one with the other sign does.
        for path, other in (("a", "b"), ("a.next", "b"), ("a.next.twin.prev.twin", "b.prev"), ("a.twin", "b.next")):
            for label in ("", ".face", ".corner"):
                for nexts in (LOOP, STICK, TORUS, SQUARE, TRIANGLE, [1, 0, 2, 3]):
                    for half in range(len(nexts)):
                        lines = ["routine r a b", f"given {path}{label} == {other}{label}"]
                        expected = plain.plain_run(lines, nexts, [half, 1])
                        self.gives(lines, nexts, [half, 1], *expected)
                        holds = expected[0] == "Outcome"
                        lines = ["routine r a b", f"given {path}{label} != {other}{label}"]
                        result = checks.ran(read_routine("\n".join(lines)), nexts, [half, 1])
                        self.assertEqual(result[0], "FactFails" if holds else "Outcome")

    def test_facts_come_first(self):
        self.gives(["routine r a", "given a == a", "given a.next == a", "drop a", "drop a"], STICK, [0],
                   "FactFails", 3)


class Dead(Runs):
    def test_names(self):
        for line in ("let c = a", "let c = a.twin", "let f = a.face", "a.next = b", "b.next = a", "a.prev = b",
                     "b.prev = a", "drop a", "if a == b\nend", "if b == a\nend", "if b.twin.face != a.face\nend",
                     "tell a", "tell b b a"):
            self.gives_broken(["drop a"] + line.split("\n"), [0, 1, 2, 3], [0, 2], "dead", 3)
            self.gives_broken(["let d = a.twin", "drop d"] + line.split("\n"), [0, 1, 2, 3], [0, 2], "dead", 4)

    def test_equal_halves_and_twins(self):
        self.gives_broken(["drop a", "drop b"], LOOP, [0, 0], "dead", 3)
        self.gives_broken(["drop a", "drop b"], LOOP, [0, 1], "dead", 3)
        self.gives_broken(["let c = a.next", "drop c", "tell a"], LOOP, [1, 1], "dead", 4)

    def test_links_to_dropped_halves(self):
        # 0 and 2 are each other's next and previous halves.
        for path in ("b.next", "b.prev", "b.next.twin", "b.twin.twin.prev.next"):
            for line in (f"let c = {path}", f"let c = {path}.face", f"if {path} == b\nend",
                         f"if b.corner == {path}.corner\nend"):
                if not line.startswith("let") or path.count(".") < 4:
                    self.gives_broken(["drop a"] + line.split("\n"), SQUARE, [0, 2], "dead", 3)

    def test_twins_of_living_halves_live(self):
        self.gives_broken(["drop a", "let c = b.twin", "let d = c.twin", "let e = c.next"], SQUARE, [0, 2],
                          "dead", 5)

    def test_overwritten_links_are_not_read(self):
        lines = ["let u = b.twin", "drop a", "b.next = b", "b.prev = b", "let c = b.next", "u.next = u",
                 "u.prev = u", "let d = u.prev.prev", "let e = u.twin.next.next"]
        # The labels of the start were borne by dropped halves, too.
        self.gives_broken(lines, SQUARE, [0, 2], "faces", 11)

    def test_dropped_halves_keep_nothing(self):
        # Writing a link to a half that is dropped later is no error, reading it is.
        self.gives_broken(["b.next = a", "drop a", "let c = b.next"], [0, 1, 2, 3], [0, 2], "dead", 4)
        self.gives_broken(["b.next = a", "drop a"], [0, 1, 2, 3], [0, 2], "links", 4)

    def test_labels(self):
        lines = ["let f = a.face", "let g = b.face", "let k = a.corner"]
        for line in ("a.face = f", "round b.face = g", "f.some = a", "drop g", "drop f"):
            self.gives_broken(lines + ["drop f", line], TORUS, [0, 1], "dead", 6)
        for line in ("a.corner = k", "round b.corner = k", "k.some = a", "drop k"):
            self.gives_broken(lines + ["drop k", line], TORUS, [0, 1], "dead", 6)
        self.gives_broken(["new face f", "drop f", "a.face = f"], LOOP, [0, 1], "dead", 4)


class Unset(Runs):
    def test_links_and_labels_of_new_halves(self):
        for line in ("let c = p.next", "let c = q.prev", "let c = a.twin.twin.next.prev", "let f = p.face",
                     "let f = q.corner", "if p.next == a\nend", "if a.face == q.face\nend",
                     "if p.corner != a.corner\nend"):
            lines = ["make p q", "a.next = p"] + line.split("\n")
            self.gives_broken(lines, LOOP, [0, 1], "unset", 4)

    def test_twins_are_set(self):
        self.gives_broken(["make p q", "let c = p.twin", "c.next = c", "let d = q.next", "let e = q.prev"],
                          LOOP, [0, 1], "unset", 6)

    def test_from_left_to_right(self):
        start = ["make p q", "drop a"]
        for line, fault in (("if p.face == a.face", "unset"), ("if a.face == p.face", "dead"),
                            ("if p.next == a", "unset"), ("if a == p.next", "dead"),
                            ("if b.face == p.face", "unset"), ("if b.next == p.next", "dead"),
                            ("if p.next == b.next", "unset"), ("if b.corner == a.corner", "dead"),
                            ("if p.corner != b.next.corner", "unset")):
            self.gives_broken(start + [line, "end"], SQUARE, [0, 2], fault, 4)
        # A path stops at its first link that cannot be read.
        self.gives_broken(["make p q", "a.next = p", "let c = a.next.next.next"], LOOP, [0, 1], "unset", 4)

    def test_labels_of_old_halves_stay(self):
        self.gives_same(["make p q", "drop p", "let f = a.face", "if a.face == b.face", "end"], STICK, [0, 1])


class Links(Runs):
    def test_ahead_of_the_first_label_line(self):
        for line in ("new face h", "new corner h", "a.face = f", "a.corner = k", "round a.face = f",
                     "round a.corner = k", "f.some = a", "k.some = a", "drop f", "drop k"):
            lines = ["let f = a.face", "let k = a.corner", "a.next = b", line]
            self.gives_broken(lines, LOOP, [0, 1], "links", 5)
            # This is looked at first, ahead of dropped halves.
            lines = ["let f = a.face", "let k = a.corner", "drop a", line]
            self.gives_broken(lines, SQUARE, [0, 2], "links", 5)

    def test_the_first_one_of_the_run(self):
        lines = ["a.next = b", "if a == b", "new face f", "else", "if b == b", "new corner f", "end", "end",
                 "new face g"]
        self.gives_broken(lines, LOOP, [0, 1], "links", 7)
        self.gives_broken(["let c = a.prev", "c.next = b"] + lines[1:], TORUS, [0, 0], "faces", 12)
        self.gives_broken(["a.next = b", "if a == b", "new face f", "end"], LOOP, [0, 1], "links", 6)

    def test_at_the_end(self):
        for lines in (["a.next = b"], ["a.prev = b"], ["make p q"], ["make p q", "p.next = p", "p.prev = p"],
                      ["make p q", "p.next = p", "p.prev = p", "q.next = q"],
                      ["make p q", "p.next = p", "p.prev = p", "q.prev = q"],
                      ["a.next = b", "b.next = a"], ["a.prev = b", "b.prev = a"], ["a.next = b", "b.prev = a"]):
            self.gives_broken(lines, LOOP, [0, 1], "links", len(lines) + 2)
        self.gives_broken(["drop a"], SQUARE, [0, 2], "links", 3)
        self.gives_broken(["drop a", "tell b"], SQUARE, [0, 2], "links", 4)

    def test_the_tell_line_comes_ahead_of_the_end(self):
        self.gives_broken(["drop a", "tell b a"], SQUARE, [0, 2], "dead", 3)

    def test_links_that_are_written_again(self):
        self.gives_same(["a.next = b", "b.prev = a", "a.next = a", "b.prev = b"], LOOP, [0, 1])
        self.gives_same(["make p q", "drop q"], LOOP, [0, 1])


class Labels(Runs):
    def test_faces_come_ahead_of_corners(self):
        lines = ["let f = a.face", "let k = a.corner", "drop f", "drop k"]
        self.gives_broken(lines, LOOP, [0, 1], "faces", 6)
        self.gives_broken(lines[:2] + ["drop k"], LOOP, [0, 1], "corners", 5)

    def test_one_label_on_two_faces(self):
        lines = ["let f = a.face", "let g = b.face", "b.face = f", "drop g"]
        self.gives_broken(lines, LOOP, [0, 1], "faces", 6)
        # On two corners.
        lines = ["let f = a.corner", "let g = b.corner", "b.corner = f", "drop g", "f.some = a"]
        self.gives_broken(lines, STICK, [0, 1], "corners", 7)

    def test_two_labels_on_one_face(self):
        lines = ["let f = a.face", "new face g", "b.face = g", "g.some = b", "f.some = a"]
        self.gives_broken(lines, STICK, [0, 1], "faces", 7)
        lines = ["let f = a.corner", "new corner g", "b.corner = g", "g.some = b", "f.some = a"]
        self.gives_broken(lines, LOOP, [0, 1], "corners", 7)

    def test_faces_exchange_their_labels(self):
        lines = ["let f = a.face", "let g = b.face", "a.face = g", "b.face = f"]
        # Nobody knows to which halves the labels refer, so they must stay.
        self.gives_broken(lines, LOOP, [0, 1], "faces", 6)
        self.gives_broken(lines + ["f.some = b"], LOOP, [0, 1], "faces", 7)
        self.gives_same(lines + ["f.some = b", "g.some = a"], LOOP, [0, 1])
        self.gives_broken(lines + ["f.some = b", "g.some = a", "g.some = b"], LOOP, [0, 1], "faces", 9)
        self.gives_same(lines + ["f.some = a", "g.some = a", "f.some = b"], LOOP, [0, 1])
        lines = [line.replace("face", "corner") for line in lines]
        self.gives_same(lines + ["f.some = b", "g.some = a"], STICK, [0, 1])
        self.gives_broken(lines + ["g.some = a"], STICK, [0, 1], "corners", 7)

    def test_new_labels(self):
        lines = ["let f = a.face", "drop f", "new face g", "round a.face = g"]
        self.gives_broken(lines, STICK, [0, 1], "faces", 6)
        self.gives_same(lines + ["g.some = b"], STICK, [0, 1])
        self.gives_broken(lines + ["g.some = b"], LOOP, [0, 1], "faces", 7)
        self.gives_broken(lines + ["g.some = b", "new face h"], STICK, [0, 1], "faces", 8)
        self.gives_broken(lines + ["g.some = b", "new face h", "h.some = a"], STICK, [0, 1], "faces", 9)
        self.gives_same(lines + ["g.some = b", "new face h", "drop h"], STICK, [0, 1])
        self.gives_broken(["new corner k"], STICK, [0, 1], "corners", 3)

    def test_labels_that_no_half_bears(self):
        lines = ["let f = a.face", "new face g", "round a.face = g", "g.some = a"]
        self.gives_broken(lines, STICK, [0, 1], "faces", 6)
        self.gives_broken(lines + ["f.some = a"], STICK, [0, 1], "faces", 7)
        self.gives_same(lines + ["drop f"], STICK, [0, 1])

    def test_dropped_labels_that_halves_bear(self):
        self.gives_broken(["let f = a.face", "drop f"], STICK, [0, 1], "faces", 4)
        self.gives_broken(["let f = a.corner", "drop f"], LOOP, [0, 1], "corners", 4)

    def test_labels_of_new_halves_are_unset(self):
        lines = ["make p q", "p.next = q", "q.prev = p", "q.next = p", "p.prev = q"]
        self.gives_broken(lines, LOOP, [0, 1], "faces", 7)
        faces = ["new face f", "p.face = f", "q.face = f", "f.some = p"]
        self.gives_broken(lines + faces, LOOP, [0, 1], "corners", 11)
        corners = ["new corner k", "p.corner = k", "k.some = p", "new corner l", "q.corner = l", "l.some = q"]
        kept = {0: 0, 1: 1}
        self.gives(["routine r a b"] + lines + faces + corners, LOOP, [0, 1], "Outcome", [0, 1, 3, 2], kept, [])
        self.gives_broken(lines + faces[:2] + faces[3:] + corners, LOOP, [0, 1], "faces", 16)

    def test_some_must_be_written_if_a_bearer_is_dropped(self):
        lines = samples.PRUNE.split("\n")
        for line, fault in (("f.some = p", "faces"), ("u.some = k", "corners")):
            changed = [one for one in lines if one != line]
            self.gives(changed, [1, 2, 3, 0], [0], "Broken", fault, len(changed) + 1)
        self.gives(lines, [1, 2, 3, 0], [0], "Outcome", STICK, {2: 0, 3: 1}, [0])

    def test_round_goes_around_the_whole_face_or_corner(self):
        for nexts in (LOOP, STICK, TORUS, SQUARE, TRIANGLE, [2, 3, 4, 5, 0, 1]):
            for half in range(len(nexts)):
                for kind in ("face", "corner"):
                    lines = [f"let f = a.{kind}", f"new {kind} g", f"round b.{kind} = g", "drop f", "g.some = a"]
                    self.gives_same(lines, nexts, [half, half])
                    members = [members for members in (Mesh(nexts).faces() if kind == "face" else Mesh(nexts).corners())
                               if half in members][0]
                    self.gives_same(lines, nexts, [half, members[-1]])

    def test_a_written_half_must_bear_the_label(self):
        lines = ["let f = a.face", "f.some = b"]
        self.gives_same(lines, STICK, [0, 1])
        self.gives_broken(lines, LOOP, [0, 1], "faces", 4)
        self.gives_same(lines + ["f.some = a"], LOOP, [0, 1])

    def test_conditions_between_label_lines(self):
        lines = ["let f = a.face", "let g = b.face", "f.some = a", "if a == b", "drop g", "else", "g.some = b", "end"]
        self.gives_same(lines, LOOP, [0, 1])
        self.gives_broken(lines, LOOP, [0, 0], "faces", 10)


class Blocks(Runs):
    def test_which_lines_are_executed(self):
        lines = ["if a == b", "if a.next == b", "make c d", "drop c", "else", "drop a", "end", "else",
                 "if a.face == b.face", "let c = a", "else", "drop b", "end", "end", "tell a b"]
        self.gives_same(lines, LOOP, [0, 0], [0, 0])
        self.gives_broken(lines, STICK, [0, 0], "dead", 16)
        self.gives_same(lines, STICK, [0, 1], [0, 1])
        self.gives_broken(lines, LOOP, [0, 1], "dead", 16)

    def test_empty_parts(self):
        for lines in (["if a == b", "end"], ["if a == b", "else", "end"], ["if a != b", "else", "end", "if a == b", "end"],
                      ["if a == b", "if a == b", "end", "else", "if a == b", "else", "end", "end"]):
            for half in (0, 1):
                self.gives_same(lines, LOOP, [0, half])

    def test_three_deep(self):
        lines = ["if a == b", "if a.next == a", "if a.face == a.twin.face", "else", "drop a", "end", "else",
                 "if a.corner == b.corner", "drop a", "end", "end", "else", "if b == a.twin", "if b == b", "drop b",
                 "end", "end", "end", "tell a"]
        self.gives_broken(lines, LOOP, [0, 0], "dead", 20)
        self.gives_broken(lines, STICK, [0, 0], "dead", 20)
        self.gives_broken(lines, STICK, [0, 1], "dead", 20)
        self.gives_same(lines, SQUARE, [0, 2], [0])

    def test_names_of_both_parts(self):
        lines = ["if a == b", "let c = a", "let f = c.face", "f.some = c", "else", "let c = b.face", "if a == b",
                 "else", "c.some = b", "end", "end", "new corner c", "drop c", "tell b"]
        # No line behind the first label line of the text may bind with let.
        self.assertEqual(checks.fault(read_routine, "\n".join(["routine r a b"] + lines)), ("BadLine", 7))
        lines = ["if a == b", "let c = a", "else", "let c = b.face", "if a == b", "else", "c.some = b", "end", "end",
                 "new corner c", "drop c", "tell b"]
        for half in (0, 1):
            self.gives_same(lines, LOOP, [0, half], [half])

    def test_conditions_look_at_the_links_as_they_are(self):
        lines = ["let c = a.next", "let d = b.next", "if a.next == b.next", "else", "a.next = d", "d.prev = a",
                 "b.next = c", "c.prev = b", "if a.next == d", "if a.face == b.face", "drop a", "end", "end", "end", "tell a"]
        # The labels do not change with the links.
        self.gives_broken(lines, STICK, [0, 1], "dead", 16)
        self.gives_broken(lines, LOOP, [0, 1], "faces", 17)


if __name__ == "__main__":
    unittest.main()
