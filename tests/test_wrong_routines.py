"""Points 5 and 14 to 17: wrong routines, each with its first wrong line."""

import unittest

from halfmeshes.errors import BadLine, MeshError, UnknownName, WrongKind
from halfmeshes.texts import read_routine
from tests import checks, drawing, plain, samples

HEAD = "routine r a b"
# What is known behind these lines: a, b, c (halves), f (a face), k (a corner).
KNOWN = [HEAD, "let c = a.next", "let f = a.face", "let k = a.corner"]
# None of these has a form that may stand behind KNOWN.
BAD_LINES = [
    "", " ", "a", "x", "=", "let", "let d", "let d =", "let d = ", "let d a", "let d == a", "let d = a b",
    " let d = a", "let d = a ", "let  d = a", "let d  = a", "let d =  a", "let d=a", "Let d = a",
    "let d = a.", "let d = .next", "let d = a..next", "let d = a.nex", "let d = a.Next", "let d = a.next.",
    "let d = a.face.next", "let d = a.face.face", "let d = a.some", "let d = a.next.some",
    "let d = a.next.next.next.next.next", "let d = a.next.next.next.next.next.face", "let d = A",
    "let d = a.twin.twin.twin.twin.twin.corner", "let d = ninechars", "let d = a_b", "let d = a-b",
    "let d = 123456789", "let a = b", "let f = b", "let c = b.face", "let d.next = a", "let face = a",
    "let 1d = a", "let D = a", "let ninechars = a", "let d = a.next.face.corner", "let d = a = b",
    "make", "make p", "make p q s", "make p p", "make p a", "make k q", "make p  q", "make p = q", "make p end",
    "make p, q", "given", "given a == b", "given a.face == b.face", "given zz == a",
    "drop", "drop a b", "drop a.next", "drop ninechars", "drop A", "Drop a", "drop = a",
    "a.next", "a.next =", "a.next = ", "a.next == b", "a.next b", "a.next = b c", "a.next = b.next",
    "a.next.next = b", "a.twin = b", "a.nexts = b", "a = b", "next = b", "a. = b", ".next = b",
    "a.next  = b", " a.next = b", "a.next = ninechars", "ninechars.next = a", "A.next = a", "a.next=b",
    "if", "if a", "if a ==", "if a == ", "if a = b", "if a == b == c", "if a === b", "if a < b", "if a == b c",
    "if a == b.face", "if a.face == b", "if a.face == b.corner", "if a.corner == b.face",
    "if a.face.next == b", "if a.next.next.next.next.next == b", "if a == b.prev.prev.prev.prev.prev",
    "if  a == b", "if a == b ", "if not a == b", "if a.some == b", "if a is b", "if ninechars == a", "IF a == b",
    "else", "end", "else a", "end a", "else ", "end ", "end if", "elif a == b",
    "new", "new face", "new corner", "new face ", "new half d", "new face d e", "new face f", "new corner f",
    "new corner c", "new face a", "new next d", "new face end", "new face 1", "new Face d", "new faces d",
    "a.face", "a.face =", "a.face = ", "a.face = f k", "a.face == f", "a.next.face = f", "a.face = f.some",
    "a.faces = f", "face = f", "a.corner = ", "a.corner = K", "a.face = ninechars",
    "round", "round a", "round a.face", "round a.face =", "round a.face = f k", "round a.face == f",
    "round a.next.face = f", "round a.next = b", "round f.some = a", "round  a.face = f", "round round a.face = f",
    "round a.twin = f", "Round a.face = f", "rounds a.face = f",
    "f.some", "f.some =", "f.some = ", "f.some == a", "f.some = a b", "f.some = a.next", "f.next.some = a",
    "f.face.some = a", "some = a", "f.somes = a", "f.some = a.face",
    "tell", "tell ", "tell a b c a", "tell a, b", "tell a.next", "tell  a", "tell a ", "tell A", "tell ninechars",
    "call", "call r a", "call r a b", "call d = r a b", "call join a b", "routine s a", "routine r a b",
    "script s a", "script", "routine", "# a", "let d = a # b", "let\td = a", "let d = a\r", "a.next\t= b",
    "let d = \u00e4", "drop \u0430",
]
# What is wrong with the names: the line, the error, the name.
WRONG_NAMES = [
    ("let d = zz", "UnknownName", "zz"), ("let d = zz.next.twin", "UnknownName", "zz"),
    ("let d = zz.face", "UnknownName", "zz"), ("let d = 1", "UnknownName", "1"),
    ("let d = 12345678.prev", "UnknownName", "12345678"), ("let d = next", "UnknownName", "next"),
    ("let d = next.next", "UnknownName", "next"), ("let d = face", "UnknownName", "face"),
    ("let d = face.face", "UnknownName", "face"), ("let d = some", "UnknownName", "some"),
    ("let d = d", "UnknownName", "d"), ("let d = d.next", "UnknownName", "d"),
    ("let d = d.corner", "UnknownName", "d"), ("let d = r", "UnknownName", "r"),
    ("let d = f", "WrongKind", "f"), ("let d = k", "WrongKind", "k"), ("let d = f.next", "WrongKind", "f"),
    ("let d = f.face", "WrongKind", "f"), ("let d = k.corner", "WrongKind", "k"),
    ("a.next = zz", "UnknownName", "zz"), ("zz.next = a", "UnknownName", "zz"),
    ("zz.prev = yy", "UnknownName", "zz"), ("f.next = a", "WrongKind", "f"), ("a.next = f", "WrongKind", "f"),
    ("f.next = zz", "WrongKind", "f"), ("zz.next = f", "UnknownName", "zz"), ("a.prev = r", "UnknownName", "r"),
    ("k.prev = f", "WrongKind", "k"), ("let.next = drop", "UnknownName", "let"),
    ("drop.next = a", "UnknownName", "drop"), ("round.face = f", "UnknownName", "round"),
    ("a.next = next", "UnknownName", "next"),
    ("drop zz", "UnknownName", "zz"), ("drop r", "UnknownName", "r"), ("drop end", "UnknownName", "end"),
    ("drop 0", "UnknownName", "0"),
    ("if zz == yy", "UnknownName", "zz"), ("if a == yy", "UnknownName", "yy"),
    ("if a.next.face == zz.twin.face", "UnknownName", "zz"), ("if f == a", "WrongKind", "f"),
    ("if a == k", "WrongKind", "k"), ("if f == f", "WrongKind", "f"), ("if f == zz", "WrongKind", "f"),
    ("if zz == f", "UnknownName", "zz"), ("if f.face == a.face", "WrongKind", "f"),
    ("if a.corner != k.corner", "WrongKind", "k"), ("if if == a", "UnknownName", "if"),
    ("if next.next == a", "UnknownName", "next"), ("if face == corner", "UnknownName", "face"),
    ("a.face = zz", "UnknownName", "zz"), ("a.face = k", "WrongKind", "k"), ("a.face = b", "WrongKind", "b"),
    ("a.corner = f", "WrongKind", "f"), ("a.corner = a", "WrongKind", "a"), ("f.face = f", "WrongKind", "f"),
    ("k.corner = zz", "WrongKind", "k"), ("zz.face = k", "UnknownName", "zz"), ("zz.face = yy", "UnknownName", "zz"),
    ("round a.face = zz", "UnknownName", "zz"), ("round a.face = k", "WrongKind", "k"),
    ("round a.corner = f", "WrongKind", "f"), ("round a.face = a", "WrongKind", "a"),
    ("round f.face = zz", "WrongKind", "f"), ("round zz.corner = f", "UnknownName", "zz"),
    ("round round.face = f", "UnknownName", "round"),
    ("zz.some = a", "UnknownName", "zz"), ("f.some = zz", "UnknownName", "zz"), ("a.some = b", "WrongKind", "a"),
    ("f.some = k", "WrongKind", "k"), ("f.some = f", "WrongKind", "f"), ("a.some = zz", "WrongKind", "a"),
    ("zz.some = f", "UnknownName", "zz"), ("k.some = f", "WrongKind", "f"),
    ("tell zz", "UnknownName", "zz"), ("tell a zz f", "UnknownName", "zz"), ("tell a f zz", "WrongKind", "f"),
    ("tell k", "WrongKind", "k"), ("tell r", "UnknownName", "r"), ("tell tell", "UnknownName", "tell"),
]


class Wrong(unittest.TestCase):
    def wrong(self, lines, *expected):
        text = lines if isinstance(lines, str) else "\n".join(lines)
        self.assertEqual(checks.fault(read_routine, text), expected, text)
        self.assertEqual(plain.fault_of_routine(text), expected, text)

    def right(self, lines):
        self.assertIsNone(checks.fault(read_routine, "\n".join(lines)), lines)
        self.assertIsNone(plain.fault_of_routine("\n".join(lines)), lines)

    def test_bad_lines(self):
        for line in BAD_LINES:
            self.wrong(KNOWN + [line], "BadLine", 5)
            self.wrong(KNOWN + [line, "tell a"], "BadLine", 5)
            if line not in ("else", "end"):
                self.wrong(KNOWN + ["if a == b", line, "end"], "BadLine", 6)
            self.wrong([HEAD, "if a == b", "end", "let c = a", "new face f", "new corner k", line],
                       "BadLine", 7)

    def test_wrong_names(self):
        for line, error, name in WRONG_NAMES:
            self.wrong(KNOWN + [line], error, 5, name)
            if not line.startswith("tell"):
                self.wrong(KNOWN + ["make p q", line, "tell a b"], error, 6, name)
                self.wrong(KNOWN + ["if a == b", "if b == b", line], error, 7, name)

    def test_errors(self):
        for text, kind, values in (
                (HEAD + "\nx", BadLine, {"line": 2}),
                (HEAD + "\ndrop x", UnknownName, {"line": 2, "name": "x"}),
                (HEAD + "\nlet f = a.face\nf.next = a", WrongKind, {"line": 3, "name": "f"})):
            with self.assertRaises(kind) as caught:
                read_routine(text)
            self.assertIsInstance(caught.exception, MeshError)
            self.assertIsInstance(caught.exception, ValueError)
            self.assertEqual(vars(caught.exception), values)

    def test_first_lines(self):
        for line in ("", " ", "routine", "routine ", "routine r", "routine r ", "routine r a b c d", " routine r a",
                     "routine r a ", "routine  r a", "routine r  a", "Routine r a", "ROUTINE r a", "script r a",
                     "routine r a a", "routine r a b a", "routine r b a a", "routine R a", "routine r A",
                     "routine 1 a", "routine r 1", "routine next a", "routine r next", "routine r a face",
                     "routine routine a", "routine ninechars a", "routine r ninechars", "routine r a,b",
                     "routine r a.next", "r a", "let c = a", "tell a", "end", "routine r: a", "routines r a",
                     "routine r a = b", "given a == b", "routine\tr a", "routine r a\r"):
            self.wrong(line, "BadLine", 1)
            self.wrong(line + "\ntell a", "BadLine", 1)
            self.wrong(line + "\nx", "BadLine", 1)
        self.wrong("\n" + HEAD, "BadLine", 1)

    def test_lines_too_much(self):
        self.wrong(HEAD + "\n", "BadLine", 2)
        self.wrong(samples.JOIN + "\n", "BadLine", 25)
        self.wrong(samples.PLAIN + "\n\n", "BadLine", 2)
        for text in samples.RIGHT.values():
            count = len(text.split("\n"))
            told = text.split("\n")[-1].startswith("tell")
            for line in ("end", "else", "", "x", "let zz = zzz.", "call r a"):
                self.wrong(text + "\n" + line, "BadLine", count if told else count + 1)

    def test_facts_at_wrong_places(self):
        for line in ("let c = a", "let f = a.face", "make p q", "a.next = b", "drop a", "new face f"):
            self.wrong([HEAD, line, "given a == b"], "BadLine", 3)
            self.wrong([HEAD, "given a == b", line, "given zz == b"], "BadLine", 4)
        self.wrong([HEAD, "if a == b", "given a == b", "end"], "BadLine", 3)
        self.wrong([HEAD, "if a == b", "end", "given a == b"], "BadLine", 4)
        self.wrong([HEAD, "given a == b", "given c == b"], "UnknownName", 3, "c")
        self.wrong([HEAD, "given r == b"], "UnknownName", 2, "r")
        self.wrong([HEAD, "given a.face == b"], "BadLine", 2)
        self.wrong([HEAD, "given a.next.next.next.next.next == b"], "BadLine", 2)

    def test_behind_label_lines(self):
        for label_line in ("new face g", "new corner g", "a.face = f", "a.corner = k", "round a.face = f",
                           "round a.corner = k", "f.some = a", "k.some = a", "drop f", "drop k"):
            lines = KNOWN + [label_line]
            for line in ("let d = a", "let d = a.face", "make p q", "a.next = b", "a.prev = b", "drop a",
                         "if a.next == b", "if a == b.twin", "if a.face == b.face", "if a.corner != b.corner",
                         "given a == b", "let d = zz", "zz.next = a", "if zz.next == b"):
                self.wrong(lines + [line], "BadLine", 6)
                self.wrong(lines + ["if a == b", "end", line], "BadLine", 8)
                self.wrong(lines + ["if a == b", "else", line, "end"], "BadLine", 8)
            # The place of a label line in the text counts, also within a block.
            self.wrong(KNOWN + ["if a == b", label_line, "end", "drop a"], "BadLine", 8)
            self.wrong(KNOWN + ["if a == b", label_line, "else", "a.next = b", "end"], "BadLine", 8)
            for line in ("new face h", "if a == b\nend", "if a != c\nelse\nend", "tell a", "b.face = f",
                         "k.some = b"):
                if not (label_line in ("drop f", "drop k") and line[0] in "bk"):
                    self.right(lines + line.split("\n"))
            self.wrong(lines + ["drop zz"], "UnknownName", 6, "zz")
            self.wrong(lines + ["if a == zz"], "UnknownName", 6, "zz")
            self.wrong(lines + ["if f == a"], "WrongKind", 6, "f")
            self.wrong(lines + ["let zz = zz"], "BadLine", 6)

    def test_links_ahead_of_label_lines(self):
        # Dropping a half is no label line, and neither is a block.
        self.right([HEAD, "drop a", "let c = b", "make p q", "if a == b", "end", "b.next = c", "drop b"])

    def test_blocks(self):
        three = ["if a == b"] * 3
        self.wrong([HEAD] + three + ["if a == b"], "BadLine", 5)
        self.wrong([HEAD] + three + ["if zz == b"], "BadLine", 5)
        self.wrong([HEAD] + three + ["else", "if a == b", "end"], "BadLine", 6)
        self.right([HEAD] + three + ["end", "if a == b", "end", "end", "end"])
        for many in range(1, 4):
            self.wrong([HEAD] + three[:many], "BadLine", 2 + many)
            self.wrong([HEAD] + three[:many] + ["end"] * (many - 1), "BadLine", 1 + 2 * many)
            self.wrong([HEAD] + three[:many] + ["end"] * (many + 1), "BadLine", 2 + 2 * many)
            self.wrong([HEAD] + three[:many] + ["else", "else"], "BadLine", 3 + many)
            self.wrong([HEAD] + three[:many] + ["else"], "BadLine", 3 + many)
            self.wrong([HEAD] + three[:many] + ["tell a"], "BadLine", 2 + many)
        self.wrong([HEAD, "end"], "BadLine", 2)
        self.wrong([HEAD, "else"], "BadLine", 2)
        self.wrong([HEAD, "if a == b", "else", "if a == b", "else", "end", "else"], "BadLine", 7)
        self.wrong([HEAD, "if a == b", "else", "tell a"], "BadLine", 4)
        self.wrong([HEAD, "if a == b", "tell a", "end"], "BadLine", 3)

    def test_texts_cut_within_a_block(self):
        for text in list(samples.RIGHT.values()) + ["\n".join(drawing.drawn_routine(seed)) for seed in range(60)]:
            lines = text.split("\n")
            depth = 0
            for at, line in enumerate(lines):
                depth += {"if": 1, "end": -1}.get(line.split(" ")[0], 0)
                if depth:
                    self.wrong(lines[:at + 1], "BadLine", at + 2)
                else:
                    self.right(lines[:at + 1])

    def test_tell_lines(self):
        for line in ("tell a", "drop b", "tell zz", "x", "", "let c = a"):
            self.wrong([HEAD, "tell a", line], "BadLine", 2)
            self.wrong([HEAD, "tell zz", line], "BadLine", 2)
        self.wrong([HEAD, "tell a b a b"], "BadLine", 2)

    def test_sixty_one_lines(self):
        for line in ("drop a", "tell a", "x", "", "drop zz", "end", "let c = f"):
            self.wrong([HEAD] + ["drop a"] * 60 + [line], "BadLine", 62)
            self.wrong([HEAD] + ["drop a"] * 60 + [line] * 3, "BadLine", 62)
        self.right([HEAD] + ["drop a"] * 59 + ["tell a"])
        self.wrong([HEAD] + ["drop a"] * 59 + ["tell a", "drop a"], "BadLine", 61)
        self.wrong([HEAD] + ["drop a"] * 59 + ["if a == b"], "BadLine", 62)
        self.wrong([HEAD] + ["drop a"] * 59 + ["if a == b", "end"], "BadLine", 62)
        self.wrong([HEAD] + ["drop a"] * 30 + ["drop zz"] + ["drop a"] * 40, "UnknownName", 32, "zz")

    def test_names_bound_twice(self):
        for first in ("let d = a", "let d = a.face", "make d e", "make e d", "let d = a.corner"):
            for second in ("let d = b", "let d = b.face", "make d g", "make g d", "new face d", "new corner d"):
                self.wrong([HEAD, first, second], "BadLine", 3)
                self.wrong([HEAD, first, "if a == b", second], "BadLine", 4)
                self.wrong([HEAD, "if a == b", "else", first, second], "BadLine", 5)
                self.right([HEAD, "if a == b", first, "end", second])
                self.right([HEAD, "if a == b", first, "else", second, "end"])
        self.wrong([HEAD, "new face d", "new corner d"], "BadLine", 3)

    def test_names_of_blocks(self):
        for bind in ("let d = a", "make d e", "make e d"):
            self.wrong([HEAD, "if a == b", bind, "end", "drop d"], "UnknownName", 5, "d")
            self.wrong([HEAD, "if a == b", bind, "else", "drop d"], "UnknownName", 5, "d")
            self.wrong([HEAD, "if a == b", "else", bind, "end", "drop d"], "UnknownName", 6, "d")
            self.wrong([HEAD, "if a == b", "if a == b", bind, "end", "tell d"], "BadLine", 6)
            self.wrong([HEAD, "if a == b", "if a == b", bind, "end", "drop d"], "UnknownName", 6, "d")
            self.right([HEAD, "if a == b", bind, "if a == b", "drop d", "else", "drop d", "end", "drop d", "end"])
        self.wrong([HEAD, "if a == b", "new face f", "end", "f.some = a"], "UnknownName", 5, "f")
        self.wrong([HEAD, "let d = e", "let e = a"], "UnknownName", 2, "e")

    def test_two_things_wrong_in_one_line(self):
        self.wrong(KNOWN + ["let a = zz"], "BadLine", 5)
        self.wrong(KNOWN + ["let face = zz"], "BadLine", 5)
        self.wrong(KNOWN + ["let d = zz.next.next.next.next.next"], "BadLine", 5)
        self.wrong(KNOWN + ["make a zz."], "BadLine", 5)
        self.wrong(KNOWN + ["f.next = zz x"], "BadLine", 5)
        self.wrong(KNOWN + ["new face f", "drop a", "drop zz"], "BadLine", 5)
        self.wrong(KNOWN + ["drop f", "drop f", "drop yy"], "UnknownName", 7, "yy")
        self.wrong(KNOWN + ["tell zz f", "drop a"], "BadLine", 5)
        self.wrong(KNOWN + ["if a == b", "tell zz", "end"], "BadLine", 6)

    def test_the_first_wrong_line(self):
        self.wrong(KNOWN + ["drop zz", "x"], "UnknownName", 5, "zz")
        self.wrong(KNOWN + ["f.next = a", "", "tell zz"], "WrongKind", 5, "f")
        self.wrong(KNOWN + ["if a == b", "drop zz"], "UnknownName", 6, "zz")
        for line in BAD_LINES[:40]:
            self.wrong(KNOWN + ["let d = zz", line], "UnknownName", 5, "zz")
            self.wrong(KNOWN + [line, "let d = zz"], "BadLine", 5)
        for text in samples.RIGHT.values():
            lines = text.split("\n")
            for at in range(1, len(lines)):
                self.wrong(lines[:at] + ["."] + lines[at:-1] + ["tell zz"], "BadLine", at + 1)

    def test_samples_with_something_wrong(self):
        texts = list(samples.RIGHT.values())
        seen = {}
        for seed in range(4000):
            draws = drawing.Draws(seed)
            text = draws.pick(texts) if draws.chance(1, 2) else "\n".join(drawing.drawn_routine(seed))
            if draws.chance(1, 2):
                text = samples.with_odd_names(text, seed)
            text = drawing.damaged_text(draws, text)
            expected = plain.fault_of_routine(text)
            self.assertEqual(checks.fault(read_routine, text), expected, text)
            kind = expected and expected[0]
            seen[kind] = seen.get(kind, 0) + 1
        self.assertTrue(min(seen[kind] for kind in (None, "BadLine", "UnknownName", "WrongKind")) > 20)


if __name__ == "__main__":
    unittest.main()
