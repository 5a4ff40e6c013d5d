"""Points 4, 23 and 24: right books, and what their objects tell."""

import unittest

from halfmeshes.books import read_book
from halfmeshes.errors import MeshError, UnknownDeed
from halfmeshes.texts import read_routine
from tests import drawing, plain, samples


class Books(unittest.TestCase):
    def check(self, text, deeds):
        """Check a book against the lines of its deeds by name."""
        self.assertIsNone(plain.fault_of_book(text), text)
        for book in (read_book(text), read_book(text=text)):
            self.assertEqual(book.names(), list(deeds))
            self.assertEqual(len(book), len(deeds))
            for name, lines in deeds.items():
                self.assertIs(name in book, True)
                self.check_deed(book, book[name], lines)
            for name in ("none", "", "a", "Join", "routine", "script"):
                self.check_unknown(book, name, deeds)

    def check_deed(self, book, deed, lines):
        words = lines[0].split(" ")
        self.assertEqual((deed.name, deed.halves, deed.lines, len(deed)),
                         (words[1], tuple(words[2:]), tuple(lines), len(lines)))
        self.assertEqual(deed.told, tuple(plain.told_by(lines)))
        for value in (deed.halves, deed.told, deed.lines):
            self.assertIs(type(value), tuple)
        self.assertTrue({"name", "halves", "told", "lines"} <= set(vars(deed)))
        if words[0] == "script":
            called = [(line.split("= ")[-1] if "=" in line else line[5:]).split(" ")[0]
                      for line in lines if line.startswith("call ")]
            for name in book.names():
                if name in called:
                    self.assertEqual(deed.routine(name).lines, book[name].lines)
                    self.assertEqual(deed.routine(name=name).name, name)
                else:
                    self.check_not_called(deed, name)
            for name in ("none", "", "call", *deed.halves):
                if name not in called:
                    self.check_not_called(deed, name)

    def check_not_called(self, script, name):
        with self.assertRaises(UnknownDeed) as caught:
            script.routine(name)
        self.assertEqual(vars(caught.exception), {"name": name})
        self.assertIsInstance(caught.exception, MeshError)

    def check_unknown(self, book, name, deeds):
        if name not in deeds:
            self.assertIs(name in book, False)
            with self.assertRaises(UnknownDeed) as caught:
                book[name]
            self.assertEqual(vars(caught.exception), {"name": name})

    def test_single_deeds(self):
        for name, text in samples.RIGHT.items():
            self.check(text, {name: text.split("\n")})
            self.assertEqual(read_book(text)[name].lines, read_routine(text).lines)
        self.check("script alone a b\nlet c = b.twin\ntell c", {"alone": ["script alone a b", "let c = b.twin", "tell c"]})
        self.check("script do do", {"do": ["script do do"]})

    def test_samples(self):
        self.check(samples.BOOK, {part.split(" ")[1]: part.split("\n") for part in samples.BOOK.split("\n\n")})

    def test_by_hand(self):
        book = read_book(samples.JOIN + "\n\n" + samples.TWICE)
        self.assertEqual((book.names(), len(book), "join" in book, "p" in book), (["join", "twice"], 2, True, False))
        twice = book["twice"]
        self.assertEqual((twice.name, twice.halves, twice.told, len(twice)), ("twice", ("a", "b"), (), 5))
        self.assertEqual(twice.lines[3], "call p = join a b")
        self.assertEqual(twice.routine("join").told, ("p",))
        book = read_book("script s a\ntell a a\n\n" + samples.SPUR + "\n\nscript t t\ncall x y z = spur t\ntell y z")
        self.assertEqual((book.names(), book["s"].told, book["t"].told), (["s", "spur", "t"], ("a", "a"), ("y", "z")))

    def test_drawn_books(self):
        for seed in range(400):
            deeds = drawing.drawn_book(seed)
            self.check(drawing.book_text(deeds), deeds)

    def test_one_to_four_routines(self):
        names = list(samples.RIGHT)
        for many in range(1, 5):
            for start in range(0, len(names) - many):
                chosen = {name: samples.RIGHT[name].split("\n") for name in names[start:start + many]}
                for place in range(many + 1):
                    rows = list(chosen.items())
                    rows.insert(place, ("walk", samples.WALK.split("\n")))
                    self.check(drawing.book_text(dict(rows)), dict(rows))

    def test_forms_of_lines(self):
        lines = ["script all a b c", "given a == b.twin", "given a.next.next.next.next.face != c.face",
                 "given c.corner == b.prev.corner", "let d = a", "let e = d.next.prev.twin.next", "call show a b c",
                 "call show a a a", "call f g h = show d e d", "call spur h", "call i j k = spur f", "let l = j.prev",
                 "call plain l", "tell l k j"]
        deeds = {name: samples.RIGHT[name].split("\n") for name in ("show", "spur", "plain")}
        deeds["all"] = lines
        self.check(drawing.book_text(deeds), deeds)
        for end in range(1, len(lines)):
            deeds["all"] = lines[:end]
            self.check(drawing.book_text(deeds), deeds)

    def test_twenty_lines(self):
        for lines in (["call plain a"] * 20, ["given a == a"] * 20, ["call plain a"] * 19 + ["tell a"],
                      [f"let b{at} = a.next" for at in range(20)]):
            deeds = {"plain": [samples.PLAIN], "many": ["script many a"] + lines}
            self.check(drawing.book_text(deeds), deeds)

    def test_names_in_two_roles(self):
        start = {"r": ["routine r r a", "tell a r"], "s": ["routine s a r", "let s = a.next", "tell s"]}
        for lines in (["script t t", "call r t t"], ["script t r", "call r r r"], ["script t s r", "call s r s"],
                      ["script t a", "call r s = r a a", "call s r s"], ["script t a", "let t = a", "call t2 t3 = r t t"],
                      ["script t a", "let r = a.next", "let s = r.next", "call t = s s r", "call r t s"],
                      ["script t t a s", "call r = s s a", "call r a r", "tell t a r"]):
            deeds = dict(start, t=lines)
            self.check(drawing.book_text(deeds), deeds)

    def test_long_texts(self):
        # Point 3: up to 20,000 characters.
        deeds, size = {}, 0
        for at in range(200):
            name = f"r{at}"
            lines = samples.RIGHT[list(samples.RIGHT)[at % 17]].split("\n")
            lines[0] = " ".join(["routine", name] + lines[0].split(" ")[2:])
            if size + len("\n".join(lines)) < 19800:
                deeds[name] = lines
                size += len("\n".join(lines)) + 2
        deeds["last"] = ["script last a b"] + [f"call r{at} a b" for at in (0, 17, 34)]
        self.assertTrue(19000 < len(drawing.book_text(deeds)) <= 20000)
        self.check(drawing.book_text(deeds), deeds)

    def test_new_lists(self):
        book = read_book(samples.BOOK)
        names = book.names()
        self.assertIs(type(names), list)
        self.assertIsNot(book.names(), names)
        expected = list(names)
        names.clear()
        self.assertEqual(book.names(), expected)
        self.assertEqual(len(book), len(expected))

    def test_two_books_are_apart(self):
        first, second = read_book(samples.JOIN), read_book(samples.SPUR)
        self.assertEqual((first.names(), second.names()), (["join"], ["spur"]))
        self.assertIs("spur" in first, False)


if __name__ == "__main__":
    unittest.main()
