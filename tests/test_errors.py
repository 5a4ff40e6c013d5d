"""Points 4 and 5: the error classes."""

import unittest

from halfmeshes import errors
from halfmeshes.meshes import Mesh

VALUES = {
    "NotAMesh": {},
    "BadLine": {"line": 3},
    "UnknownName": {"line": 4, "name": "a1"},
    "WrongKind": {"line": 61, "name": "f"},
    "FactFails": {"line": 2},
    "Broken": {"fault": "links", "line": 7},
    "NeverGiven": {},
    "Breaks": {"mesh": Mesh([1, 0]), "halves": [0, 1]},
    "UnknownDeed": {"name": "join"},
    "UnknownMark": {"name": "b"},
    "NothingToUndo": {},
}


def made():
    """Each error, made by position and by the names of its attributes."""
    found = []
    for name, values in VALUES.items():
        error_class = getattr(errors, name)
        found.append((name, values, error_class(*values.values())))
        found.append((name, values, error_class(**values)))
        backwards = {key: values[key] for key in reversed(values)}
        found.append((name, values, error_class(**backwards)))
    return found


class Errors(unittest.TestCase):
    def test_attributes(self):
        for name, values, error in made():
            self.assertEqual(vars(error), values, name)

    def test_positions(self):
        unknown = errors.UnknownName(5, "x")
        self.assertEqual((unknown.line, unknown.name), (5, "x"))
        wrong = errors.WrongKind(6, "y")
        self.assertEqual((wrong.line, wrong.name), (6, "y"))
        broken = errors.Broken("dead", 8)
        self.assertEqual((broken.fault, broken.line), ("dead", 8))

    def test_bases(self):
        self.assertEqual(errors.MeshError.__bases__, (ValueError,))
        for name in VALUES:
            self.assertEqual(getattr(errors, name).__bases__, (errors.MeshError,), name)
            self.assertEqual(getattr(errors, name).__module__, "halfmeshes.errors")

    def test_none_is_another(self):
        for name, _, error in made():
            self.assertIsInstance(error, errors.MeshError)
            self.assertIsInstance(error, ValueError)
            kinds = [other for other in VALUES if isinstance(error, getattr(errors, other))]
            self.assertEqual(kinds, [name])

    def test_raised_and_caught(self):
        for name, values, error in made():
            with self.assertRaises(getattr(errors, name)) as caught:
                raise error
            self.assertEqual(vars(caught.exception), values)
        with self.assertRaises(ValueError):
            raise errors.MeshError()

    def test_messages_are_not_empty(self):
        for name, _, error in made():
            self.assertNotEqual(str(error), "", name)

    def test_lists_are_copied(self):
        mesh = Mesh([1, 0])
        for build in (lambda halves: errors.Breaks(mesh, halves),
                      lambda halves: errors.Breaks(mesh=mesh, halves=halves)):
            halves = [0, 1]
            error = build(halves)
            halves.append(1)
            halves[0] = 1
            self.assertEqual(error.halves, [0, 1])
            self.assertIs(type(error.halves), list)
            self.assertEqual(error.mesh, Mesh([1, 0]))
            error.halves.append(0)
            self.assertEqual(halves, [1, 1, 1])

    def test_two_errors_are_apart(self):
        first, second = errors.BadLine(1), errors.BadLine(2)
        self.assertEqual((first.line, second.line), (1, 2))
        halves = [0]
        one, other = errors.Breaks(Mesh([1, 0]), halves), errors.Breaks(Mesh([0, 1]), halves)
        one.halves.append(1)
        self.assertEqual(other.halves, [0])


if __name__ == "__main__":
    unittest.main()
