"""Points 2, 14 and 17: the words of the language, names, and what can be bound."""

import unittest
from itertools import product

from halfmeshes.books import read_book
from halfmeshes.texts import RESERVED, is_name, read_routine
from tests import checks, samples

LETTERS = "abcdefghijklmnopqrstuvwxyz"
SIGNS = [chr(code) for code in range(32, 127) if chr(code) not in LETTERS + "0123456789"]
NAMES = (
    list(LETTERS) + [letter + "0" for letter in LETTERS] + [letter + "zz9" for letter in LETTERS]
    + [word[:-1] for word in samples.RESERVED] + [word + "s" for word in samples.RESERVED]
    + [word + "0" for word in samples.RESERVED] + ["x" + word for word in samples.RESERVED]
    + [word[1:] for word in samples.RESERVED]
    + ["a" * many for many in range(1, 9)] + ["a123456" + digit for digit in "0123456789"]
    + ["half", "edge", "true", "none", "lambda", "def", "class", "import", "while", "for", "in"]
)
NO_NAMES = (
    ["", " ", "a ", " a", "A", "aA", "Aa", "Face", "FACE", "1", "0a", "9face", "12345678"]
    + samples.RESERVED + ["a" * 9, "a" * 10, "routines1", "corner123", "123456789", "0123456789"]
    + [sign for sign in SIGNS] + ["a" + sign for sign in SIGNS] + [sign + "a" for sign in SIGNS]
    + ["a" + sign + "b" for sign in SIGNS] + ["a.next", "a\n", "\na", "a\t", "\u00e4", "a\u00b2", "a\u0661",
                                              "\u0430"]
)


class Names(unittest.TestCase):
    def test_reserved(self):
        self.assertIs(type(RESERVED), tuple)
        self.assertEqual(RESERVED, (
            "routine", "script", "given", "let", "make", "drop", "if", "else", "end", "new",
            "round", "tell", "call", "next", "prev", "twin", "face", "corner", "some"))

    def test_names(self):
        for text in NAMES:
            self.assertIs(is_name(text), text not in RESERVED, text)
        self.assertIs(is_name(text="abc"), True)

    def test_no_names(self):
        for text in NO_NAMES:
            self.assertIs(is_name(text), False, text)

    def test_all_short_texts(self):
        signs = "az09A_. -="
        for many in range(4):
            for row in product(signs, repeat=many):
                text = "".join(row)
                right = many > 0 and row[0] in "az" and all(sign in "az09" for sign in row)
                self.assertIs(is_name(text), right, text)

    def test_all_lengths(self):
        for many in range(11):
            for first in "a9":
                text = (first + "b0c1d2e3f4")[:many]
                self.assertIs(is_name(text), first == "a" and 1 <= many <= 8, text)


class Bound(unittest.TestCase):
    def check(self, text, line, right):
        self.assertEqual(checks.fault(read_routine, text), None if right else ("BadLine", line), text)

    def bind_everywhere(self, name, right):
        head = "routine kkk jj\nlet x1 = jj\n"
        for line in (f"let {name} = jj", f"let {name} = x1.next.twin", f"let {name} = jj.face",
                     f"let {name} = jj.corner", f"make {name} y1", f"make y1 {name}",
                     f"new face {name}", f"new corner {name}"):
            self.check(head + line, 3, right)
            self.check(head + "if x1 == jj\n" + line + "\nend", 4, right)
        if " " not in name and "\n" not in name:
            self.check(f"routine {name} jj\ntell jj", 1, right)
            self.check(f"routine jj {name}", 1, right)
            self.check(f"routine jj jj {name} jjj", 1, right)

    def bind_in_books(self, name, right):
        start = "routine tells a\ntell a a\n\n"
        self.assertEqual(checks.fault(read_book, start + f"script do a\ncall {name} y1 = tells a"),
                         None if right else ("BadLine", 5), name)
        self.assertEqual(checks.fault(read_book, start + f"script do a\ncall y1 {name} = tells a"),
                         None if right else ("BadLine", 5), name)
        self.assertEqual(checks.fault(read_book, start + f"script do a\nlet {name} = a"),
                         None if right else ("BadLine", 5), name)
        if " " not in name and "\n" not in name:
            self.assertEqual(checks.fault(read_book, start + f"script {name} a b c"),
                             None if right else ("BadLine", 4), name)
            self.assertEqual(checks.fault(read_book, start + f"script do {name}"),
                             None if right else ("BadLine", 4), name)

    def test_names(self):
        for name in NAMES:
            self.bind_everywhere(name, name not in RESERVED)
            if name not in ("a", "tells"):
                self.bind_in_books(name, name not in RESERVED)

    def test_no_names(self):
        for name in NO_NAMES:
            # Two names instead of one make another line, which may be right.
            if name not in (" a", "a ") and "\n" not in name:
                self.bind_everywhere(name, False)
                self.bind_in_books(name, False)


if __name__ == "__main__":
    unittest.main()
