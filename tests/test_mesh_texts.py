"""Point 10: the texts of meshes."""

import unittest

from halfmeshes.errors import BadLine, NotAMesh
from halfmeshes.meshes import Mesh, read_mesh
from tests import helpers

WRONG_LINES = [
    "", " ", " 0 1", "0 1 ", "0  1", " 0", "0 ", "00", "01 0", "0 01", "0 1 00", "10000 0",
    "0 12345", "-1 0", "0 -1", "+1 0", "0 +1", "-0", "a", "0 a", "0 1a", "a1 0", "0,1", "0, 1",
    "0\t1", "0 1\r", "1.0", "0 0x1", "1_0", "0 1e0", "0;1", "# 0", "0 1 #", "(0 1)", "one",
    "\u0661 0", "0 \u00b2",
]


class Texts(unittest.TestCase):
    def test_lines_are_the_faces(self):
        for nexts in helpers.many_nexts():
            mesh = Mesh(nexts)
            rows = [] if mesh.text() == "" else mesh.text().split("\n")
            self.assertEqual([row.split(" ") for row in rows],
                             [[str(half) for half in face] for face in mesh.faces()])

    def test_by_hand(self):
        self.assertEqual(Mesh([]).text(), "")
        self.assertEqual(Mesh([0, 1]).text(), "0\n1")
        self.assertEqual(Mesh([1, 0]).text(), "0 1")
        self.assertEqual(Mesh([4, 1, 0, 3, 2, 5]).text(), "0 4 2\n1\n3\n5")

    def test_read_again(self):
        for nexts in helpers.many_nexts():
            mesh = read_mesh(text=Mesh(nexts).text())
            self.assertIsInstance(mesh, Mesh)
            self.assertEqual(mesh.nexts(), nexts)

    def test_other_orders(self):
        for at, nexts in enumerate(helpers.many_nexts()):
            faces = helpers.shuffled(Mesh(nexts).faces(), at)
            if faces:
                turned = [face[at % len(face):] + face[:at % len(face)] for face in faces]
                text = "\n".join(" ".join(str(half) for half in face) for face in turned)
                self.assertEqual(read_mesh(text).nexts(), nexts)

    def test_empty_text(self):
        self.assertEqual(read_mesh("").nexts(), [])

    def test_numbers_beyond_the_limit(self):
        order = list(range(10000))
        mesh = read_mesh(" ".join(str(half) for half in order))
        self.assertEqual(mesh.nexts(), order[1:] + [0])


class WrongTexts(unittest.TestCase):
    def bad(self, text, line):
        with self.assertRaises(BadLine) as caught:
            read_mesh(text)
        self.assertEqual(vars(caught.exception), {"line": line})

    def no_mesh(self, text):
        with self.assertRaises(NotAMesh):
            read_mesh(text)

    def test_one_wrong_line(self):
        for wrong in WRONG_LINES:
            if wrong != "":
                self.bad(wrong, 1)
            self.bad(wrong + "\n0 1", 1)
            self.bad("0 1\n" + wrong, 2)
            self.bad("2 3\n" + wrong + "\n0 1", 2)
            self.bad("2\n3\n0 1\n" + wrong, 4)

    def test_empty_lines(self):
        self.bad("\n", 1)
        self.bad("\n0 1", 1)
        self.bad("0 1\n", 2)
        self.bad("0 1\n\n2 3", 2)
        self.bad("0 1\n\n", 2)
        self.bad("0\n1\n", 3)

    def test_the_first_wrong_line(self):
        self.bad("0 1\n2 x\n\n3", 2)
        self.bad("0 1\n\n2 x", 2)
        self.bad("0\n1 \n02\n3", 2)

    def test_lines_are_looked_at_first(self):
        self.bad("0 0\n1 1\n2 b", 3)
        self.bad("5\n5\n", 3)
        self.bad("7 7 12345", 1)

    def test_no_mesh(self):
        for text in ("0", "1", "2", "9999", "0 0", "1 1", "0 1 1", "0 0 1", "0 1 2", "0\n1\n2",
                     "0 1 1 2", "0 1 3 4", "1 2", "1 2 3 4", "0 2", "0 1\n1 0", "0 1\n0 1",
                     "0 1 2 2", "0\n1\n3\n2\n2", "0 1 2 9999", "0 1\n2 4"):
            self.no_mesh(text)

    def test_missing_and_double_numbers(self):
        for edges in range(1, 31):
            words = [str(half) for half in helpers.scattered_nexts(edges, edges)]
            at = (5 * edges) % len(words)
            self.no_mesh(" ".join(words[:at] + words[at + 1:]))
            self.no_mesh("\n".join(words[:at] + [words[at - 1]] + words[at + 1:]))
            self.no_mesh("\n".join(words + [words[at]]))
            self.no_mesh(" ".join(words + [str(len(words))]))
            self.assertEqual(len(read_mesh("\n".join(words))), 2 * edges)

    def test_which_of_all_texts_are_meshes(self):
        for count in range(1, 5):
            for code in range(5 ** count):
                numbers = [code // 5 ** at % 5 for at in range(count)]
                text = " ".join(str(number) for number in numbers)
                if count % 2 == 0 and sorted(numbers) == list(range(count)):
                    self.assertEqual(read_mesh(text).text().split(" ")[0], "0")
                else:
                    self.no_mesh(text)


if __name__ == "__main__":
    unittest.main()
