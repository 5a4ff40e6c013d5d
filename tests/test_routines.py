"""Points 2 and 14 to 17: right routines, and what their objects tell."""

import unittest

from halfmeshes.texts import read_routine
from tests import drawing, plain, samples


class Routines(unittest.TestCase):
    def check(self, text):
        self.assertIsNone(plain.fault_of_routine(text), text)
        lines = text.split("\n")
        for routine in (read_routine(text), read_routine(text=text)):
            self.assertEqual(routine.name, lines[0].split(" ")[1])
            self.assertEqual(routine.halves, tuple(lines[0].split(" ")[2:]))
            self.assertEqual(routine.told, tuple(plain.told_by(lines)))
            self.assertEqual(routine.lines, tuple(lines))
            self.assertEqual(len(routine), len(lines))
            for value in (routine.halves, routine.told, routine.lines):
                self.assertIs(type(value), tuple)
            self.assertTrue({"name", "halves", "told", "lines"} <= set(vars(routine)))

    def test_samples(self):
        for text in samples.RIGHT.values():
            self.check(text)

    def test_by_hand(self):
        routine = read_routine(samples.JOIN)
        self.assertEqual((routine.name, routine.halves, routine.told, len(routine)),
                         ("join", ("a", "b"), ("p",), 25))
        self.assertEqual(routine.lines[8], "make p q")
        routine = read_routine("routine plain plain")
        self.assertEqual((routine.name, routine.halves, routine.told, routine.lines, len(routine)),
                         ("plain", ("plain",), (), ("routine plain plain",), 1))
        routine = read_routine("routine r c r b\ntell b c b")
        self.assertEqual((routine.halves, routine.told), (("c", "r", "b"), ("b", "c", "b")))

    def test_odd_names(self):
        for text in samples.RIGHT.values():
            for turn in range(0, 36, 3):
                self.check(samples.with_odd_names(text, turn))

    def test_drawn_ones(self):
        for seed in range(400):
            self.check("\n".join(drawing.drawn_routine(seed)))

    def right(self, *lines, head="routine r a b"):
        self.check("\n".join((head,) + lines))

    def test_paths_of_four_links(self):
        for path in ("a", "b.twin", "a.next.prev", "a.twin.twin.next", "b.prev.prev.twin.next",
                     "a.next.next.next.next"):
            self.right(f"let c = {path}", f"let f = {path}.face", f"let d = {path}.corner")
            for label in ("", ".face", ".corner"):
                for sign in ("==", "!="):
                    self.right(f"given {path}{label} {sign} b{label}", f"given a{label} {sign} {path}{label}")
                    self.right(f"if {path}{label} {sign} {path}{label}", "end")

    def test_all_forms(self):
        self.right("given a == b", "given a.face != b.face", "let c = a", "let f = b.face",
                   "let k = c.corner", "make d e", "d.next = e", "e.prev = e", "drop a", "if c == d",
                   "else", "end", "new face g", "new corner l", "c.face = g", "c.corner = k",
                   "round c.face = f", "round d.corner = l", "f.some = a", "k.some = e", "drop f",
                   "drop l", "tell a b c")

    def test_blocks(self):
        three = ["if a == b", "if a == b", "if a == b", "end", "end", "end"]
        self.right(*three)
        self.right(*(three + three))
        self.right("if a == b", "else", "end")
        self.right("if a == b", "else", "if a == b", "if a == b", "end", "end", "end")
        self.right("if a == b", "if a != b", "else", "if a == a", "else", "end", "end", "else", "if b == b",
                   "if b == b", "else", "end", "end", "end", "if a == a", "end")

    def test_names_in_blocks(self):
        # A name is free again behind the part of the block that binds it.
        self.right("if a == b", "let c = a", "else", "let c = a.face", "c.some = a", "end",
                   "new corner c", "c.some = a")
        self.right("if a == b", "make c d", "if a != b", "let e = c", "end", "let e = d.face", "end",
                   "make e d", "let c = e")
        self.right("if a == b", "new face f", "end", "new corner f", "drop f")
        self.right("let c = a", "if a == b", "c.next = c", "else", "c.next = c", "end", "tell c")

    def test_label_lines_in_blocks(self):
        self.right("let f = a.face", "if a.face == b.face", "else", "a.face = f", "if a != b", "drop f",
                   "else", "f.some = a", "end", "end", "if b == b", "end", "tell b")

    def test_drop_of_each_kind(self):
        self.right("drop a", "drop b")
        self.right("let f = a.face", "drop a", "drop f", "new corner c", "drop c")

    def test_names_in_two_roles(self):
        self.right("let r = a", head="routine r a")
        self.right("let r = a.face", head="routine r a b c")
        self.right("tell r a", head="routine r r a")
        self.right("r.next = r", "drop r", head="routine r r")
        self.right("new face r", "r.some = a", head="routine r a")

    def test_sixty_lines(self):
        self.right(*["drop a"] * 60)
        self.right(*["given a == a"] * 59 + ["tell a"])
        self.right(*["if a == a", "end"] * 30)
        self.right(*[f"let z{at} = b" for at in range(60)])

    def test_facts_and_tell_lines_alone(self):
        self.right("given a == b")
        self.right("tell a")
        self.right("given a == a.twin", "tell b b b")

    def test_two_routines_are_apart(self):
        first, second = read_routine(samples.JOIN), read_routine(samples.SPUR)
        self.assertEqual((first.name, second.name), ("join", "spur"))
        self.assertEqual(first.lines, tuple(samples.JOIN.split("\n")))


if __name__ == "__main__":
    unittest.main()
