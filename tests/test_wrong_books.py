"""Points 5, 16, 17, 23 and 24: wrong books, each with its first wrong line."""

import unittest

from halfmeshes.books import read_book
from halfmeshes.errors import BadLine, MeshError, UnknownName, WrongKind
from halfmeshes.texts import read_routine
from tests import checks, drawing, plain, samples

# Lines 1 to 10; the scripts below begin in line 11.
START = """routine two a b
let c = a.next
tell b c

script early a
tell a

routine one a
drop a
"""
SCRIPT = START + "\nscript do a b"
# None of these may stand in a script behind a let line.
BAD_LINES = [
    " ", "a", "x", "let", "let d", "let d = ", "let d a", "let d == a", " let d = a", "let d = a ", "let  d = a",
    "let d = a.face", "let d = a.next.corner", "let d = a.next.next.next.next.next", "let d = a..next", "let d = A",
    "let a = b", "let c = a", "let next = a", "let 1 = a", "let ninechars = a", "let d = ninechars",
    "make p q", "a.next = b", "a.prev = b", "drop a", "if a == b", "else", "end", "new face f", "new corner f",
    "a.face = f", "round a.face = f", "f.some = a", "given a == b", "given a.face == b.face",
    "tell", "tell a b a b", "tell a.next", "tell  a", "tell a ", "tell ninechars",
    "call", "call ", "call one", "call one ", "call  one a", "call one  a", " call one a", "call one a ",
    "call two", "call x = one", "call x y = two", "call = two a b", "call x = ", "call x y =", "call x y = two a",
    "call x y = two a b a", "call x = two a b", "call x y z = two a b", "call x = one a", "call x y = one a",
    "call x == one a", "call x = = one a", "call x = y = one a", "call = x = one a", "call x= two a b",
    "call one a b", "call two a", "call two a b c", "call two a b a b", "call one a.next", "call two a, b",
    "call a x = two a b", "call x a = two a b", "call x x = two a b", "call x next = two a b", "call 1 x = two a b",
    "call X y = two a b", "call x ninechars = two a b", "call face x = two a b", "call x.next y = two a b",
    "call c x = two a b", "call One a", "call ninechars a", "call one A", "Call one a", "CALL one a", "call one(a)",
    "one a", "x y = two a b", "routine z a", "script z a", "script", "routine", "# a",
]
WRONG_NAMES = [
    ("call zz a", "zz"), ("call zz zz", "zz"), ("call x y = zz a b", "zz"), ("call do a", "do"), ("call do a b", "do"),
    ("call early a", "early"), ("call x = early a", "early"), ("call late a", "late"), ("call next a", "next"),
    ("call a a", "a"), ("call a b", "a"), ("call c a b a b", "c"), ("call x = c a b", "c"), ("call 1 a", "1"),
    ("call call call", "call"), ("call tell a", "tell"), ("call zz yy a", "zz"), ("call early zz", "early"),
    ("call one zz", "zz"), ("call one one", "one"), ("call one do", "do"), ("call one early", "early"),
    ("call one next", "next"), ("call one 0", "0"), ("call two zz yy", "zz"), ("call two a yy", "yy"),
    ("call two a two", "two"), ("call x y = two a x", "x"), ("call x y = two y a", "y"), ("call d e = two zz a", "zz"),
    ("let d = zz", "zz"), ("let d = d", "d"), ("let d = d.next", "d"), ("let d = one", "one"), ("let d = do", "do"),
    ("let d = early.next", "early"), ("let d = face", "face"), ("let d = next.next", "next"), ("tell zz", "zz"),
    ("tell a zz yy", "zz"), ("tell one", "one"), ("tell do", "do"), ("tell d", "d"),
]


class WrongBooks(unittest.TestCase):
    def wrong(self, text, *expected):
        self.assertEqual(checks.fault(read_book, text), expected, text)
        self.assertEqual(plain.fault_of_book(text), expected, text)

    def right(self, text):
        self.assertIsNone(checks.fault(read_book, text), text)
        self.assertIsNone(plain.fault_of_book(text), text)

    def test_empty_lines(self):
        text = "routine r a\ntell a"
        for lines in ("", "\n", "\n\n", "\n" + text, "\n\n" + text):
            self.wrong(lines, "BadLine", 1)
        self.wrong(text + "\n", "BadLine", 3)
        self.wrong(text + "\n\n", "BadLine", 3)
        self.wrong(text + "\n\n\n", "BadLine", 3)
        self.wrong(text + "\n\n\nscript s a", "BadLine", 3)
        self.wrong(text + "\n\nscript s a\n", "BadLine", 5)
        self.wrong(text + "\n\nscript s a\n\n\nscript t a", "BadLine", 5)
        self.wrong(text + "\n\nscript s a\n\nscript t a\n\n", "BadLine", 7)
        self.wrong(text + "\nscript s a", "BadLine", 2)
        self.wrong("routine r a\nroutine s a", "BadLine", 2)
        self.wrong("routine r a\ndrop a\nscript s a", "BadLine", 3)
        self.wrong("script s a\nroutine s a", "BadLine", 2)
        self.wrong("routine r a\n\ndrop a", "BadLine", 3)
        self.wrong("script s a\n\ntell a", "BadLine", 3)
        self.wrong("routine r a\n \nroutine s a", "BadLine", 2)
        self.wrong("routine r a\n\n \nroutine s a", "BadLine", 3)

    def test_empty_lines_in_samples(self):
        lines = samples.BOOK.split("\n")
        self.wrong("\n".join([""] + lines), "BadLine", 1)
        self.wrong("\n".join(lines + [""]), "BadLine", len(lines) + 1)
        for at, line in enumerate(lines):
            if line == "":
                self.wrong("\n".join(lines[:at] + [""] + lines[at:]), "BadLine", at + 1)
                told = lines[at - 1].startswith("tell ")
                self.wrong("\n".join(lines[:at] + lines[at + 1:]), "BadLine", at if told else at + 1)

    def test_names_twice(self):
        for first in ("routine r a", "script r a"):
            for second in ("routine r a", "script r b"):
                self.wrong(first + "\n\n" + second, "BadLine", 3)
                self.wrong(first + "\ntell a\n\nscript s a\n\n" + second + "\nx", "BadLine", 6)
                self.wrong(first + "\n\n" + second + "\n", "BadLine", 3)
        self.right("routine r a\n\nscript a r")

    def test_first_lines(self):
        for line in ("script", "script ", "script z", "script z ", "script z a b c d", "script z a a", "script  z a",
                     "script z a ", " script z a", "Script z a", "script Z a", "script next a", "script z next",
                     "script 1 a", "script z 1", "script script a", "script ninechars a", "script z a.next", "z a",
                     "call one a", "tell a", "x", "scripts z a", "deed z a", "routine", "routine z", "routine two a",
                     "script two a", "routine early a", "script one a", "script early a"):
            self.wrong(START + "\n" + line, "BadLine", 11)
            self.wrong(START + "\n" + line + "\nx\n\n\n", "BadLine", 11)
            self.wrong(START + "\n" + line + "\n", "BadLine", 11)

    def test_bad_lines(self):
        for line in BAD_LINES:
            self.wrong(SCRIPT + "\nlet c = a\n" + line, "BadLine", 13)
            self.wrong(SCRIPT + "\nlet c = a\ncall one c\n" + line + "\ntell a", "BadLine", 14)
            self.wrong(SCRIPT + "\nlet c = a\n" + line + "\n\nx\n", "BadLine", 13)

    def test_wrong_names(self):
        for line, name in WRONG_NAMES:
            self.wrong(SCRIPT + "\nlet c = a\n" + line, "UnknownName", 13, name)
            self.wrong(SCRIPT + "\nlet c = a\n" + line + "\n\nroutine late a\nx", "UnknownName", 13, name)
            if not line.startswith("tell"):
                self.wrong(SCRIPT + "\nlet c = a\n" + line + "\nlet d = a\n\n\n", "UnknownName", 13, name)

    def test_order_in_call_lines(self):
        # The form, to which the new names belong; the routine; the numbers; the halves.
        for line, *expected in (
                ("call a = zz yy", "BadLine", 12), ("call next = zz yy", "BadLine", 12),
                ("call x x = zz yy", "BadLine", 12), ("call x = zz", "BadLine", 12),
                ("call x = zz yy", "UnknownName", 12, "zz"), ("call x = one yy", "BadLine", 12),
                ("call one yy zz", "BadLine", 12), ("call two yy", "BadLine", 12),
                ("call x = two yy zz", "BadLine", 12), ("call x y = two yy", "BadLine", 12),
                ("call x y = two yy zz", "UnknownName", 12, "yy"), ("call two b zz", "UnknownName", 12, "zz")):
            self.wrong(SCRIPT + "\n" + line, *expected)

    def test_facts_and_tell_lines(self):
        self.wrong(SCRIPT + "\ncall one a\ngiven a == b", "BadLine", 13)
        self.wrong(SCRIPT + "\nlet c = a\ngiven a == b", "BadLine", 13)
        self.wrong(SCRIPT + "\ngiven a == b\ngiven a.face == b", "BadLine", 13)
        self.wrong(SCRIPT + "\ngiven a == b\ngiven c == b", "UnknownName", 13, "c")
        self.wrong(SCRIPT + "\ngiven a.face != do.face", "UnknownName", 12, "do")
        self.wrong(SCRIPT + "\ngiven a.next.next.next.next.next == b", "BadLine", 12)
        self.wrong(SCRIPT + "\ntell a\ntell a", "BadLine", 12)
        self.wrong(SCRIPT + "\ntell a\ncall one a", "BadLine", 12)
        self.wrong(SCRIPT + "\ntell zz\ncall one a", "BadLine", 12)
        self.wrong(SCRIPT + "\ntell a\n", "BadLine", 13)
        self.wrong(SCRIPT + "\ntell a\n\n\nscript x a", "BadLine", 13)
        self.right(SCRIPT + "\ngiven a == b\ntell a")

    def test_twenty_one_lines(self):
        for line in ("call one a", "tell a", "x", "call zz a", "let c = zz"):
            self.wrong(SCRIPT + "\ncall one a" * 20 + "\n" + line, "BadLine", 32)
        self.wrong(SCRIPT + "\ncall one a" * 19 + "\ntell a\ncall one a", "BadLine", 31)
        self.right(SCRIPT + "\ncall one a" * 19 + "\ntell a\n\nscript x a")
        self.wrong(SCRIPT + "\ncall one a" * 20 + "\n", "BadLine", 32)
        self.wrong(START + "\nroutine z a" + "\ndrop a" * 61, "BadLine", 72)

    def test_lines_of_routines(self):
        for line, *values in (("x", "BadLine", 13), ("call one a", "BadLine", 13), ("let b = zz", "UnknownName", 13, "zz"),
                              ("drop one", "UnknownName", 13, "one"), ("a.face = a", "WrongKind", 13, "a"),
                              ("drop z", "UnknownName", 13, "z"), ("tell a\ndrop a", "BadLine", 13)):
            self.wrong(START + "\nroutine z a\ndrop a\n" + line, *values)
            self.wrong(START + "\nroutine z a\ndrop a\n" + line + "\ndrop a\n\nx\n\n", *values)

    def test_open_blocks(self):
        self.wrong(START + "\nroutine z a\nif a == a", "BadLine", 13)
        self.wrong(START + "\nroutine z a\nif a == a\n\nscript x a", "BadLine", 13)
        self.wrong(START + "\nroutine z a\nif a == a\nelse\n\nscript x zz zz", "BadLine", 14)
        self.wrong(START + "\nroutine z a\nif a == a\n", "BadLine", 13)
        self.wrong(START + "\nroutine z a\nif a == a\n\nend", "BadLine", 13)

    def test_errors(self):
        for text, kind, values in (
                (START, BadLine, {"line": 10}), (SCRIPT + "\ncall zz a", UnknownName, {"line": 12, "name": "zz"}),
                (START + "\nroutine z a\nlet f = a.face\ntell f", WrongKind, {"line": 13, "name": "f"})):
            with self.assertRaises(kind) as caught:
                read_book(text)
            self.assertIsInstance(caught.exception, MeshError)
            self.assertIsInstance(caught.exception, ValueError)
            self.assertEqual(vars(caught.exception), values)

    def test_texts_that_are_no_routine(self):
        self.assertEqual(checks.fault(read_routine, samples.TWICE), ("BadLine", 1))
        self.assertEqual(checks.fault(read_routine, samples.PLAIN + "\n\n" + samples.SHOW), ("BadLine", 2))

    def test_samples_with_something_wrong(self):
        seen = {}
        for seed in range(2500):
            draws = drawing.Draws(seed)
            text = samples.BOOK if draws.chance(1, 5) else drawing.book_text(drawing.drawn_book(seed))
            text = drawing.damaged_text(draws, text)
            expected = plain.fault_of_book(text)
            self.assertEqual(checks.fault(read_book, text), expected, text)
            kind = expected and expected[0]
            seen[kind] = seen.get(kind, 0) + 1
        self.assertTrue(min(seen[kind] for kind in (None, "BadLine", "UnknownName")) > 100, seen)

    def test_with_the_last_line_wrong_too(self):
        for seed in range(200):
            deeds = drawing.drawn_book(seed)
            lines = drawing.book_text(deeds).split("\n")
            draws = drawing.Draws(seed)
            at = draws.below(len(lines))
            while lines[at] == "":
                at = draws.below(len(lines))
            self.wrong("\n".join(lines[:at] + ["?"] + lines[at + 1:] + ["?"]), "BadLine", at + 1)


if __name__ == "__main__":
    unittest.main()
