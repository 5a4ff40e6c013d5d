"""Point 4: every function and method of the interface, called by position and by name."""

import copy
import unittest

from halfmeshes.books import read_book
from halfmeshes.changes import changes
from halfmeshes.comparing import needless, parting
from halfmeshes.errors import (BadLine, Breaks, Broken, FactFails, MeshError, NeverGiven, NotAMesh, NothingToUndo,
                               UnknownDeed, UnknownMark, UnknownName, WrongKind)
from halfmeshes.facts import needed_facts
from halfmeshes.fillings import Partial, filled, needed_edges
from halfmeshes.judging import breaks
from halfmeshes.likeness import numbered, renaming, small_meshes
from halfmeshes.live import LiveMesh
from halfmeshes.meshes import Mesh, read_mesh
from halfmeshes.pictures import picture, pictures
from halfmeshes.runs import Outcome, run
from halfmeshes.texts import is_name, read_routine
from tests import samples

TORUS = Mesh([2, 3, 1, 0])
JOIN = read_routine(samples.JOIN)
BAD = read_routine("routine bad a b\ngiven a.face == b.face\nlet c = a.next\nc.prev = b")
TWICE = read_book(samples.BOOK)["twice"]
BOOK = read_book(samples.BOOK)
PARTIAL = Partial([None, None, 0, None])
FACES, CORNERS = {0: 1, 1: 2, 3: 3}, {1: 0, 2: 3, 3: 1}

# A function, its arguments by the names of its parameters in their order, and those to be passed by name only.
CALLS = (
    (read_mesh, {"text": "0 2\n1 3"}, {}),
    (Mesh, {"nexts": [1, 2, 3, 0]}, {}),
    (TORUS.after, {"half": 2}, {}),
    (TORUS.before, {"half": 2}, {}),
    (TORUS.twin, {"half": 2}, {}),
    (TORUS.turned, {"half": 2}, {}),
    (TORUS.is_one_face, {"first": 2, "second": 0}, {}),
    (TORUS.is_one_corner, {"first": 2, "second": 0}, {}),
    (numbered, {"mesh": TORUS, "halves": [3, 1]}, {}),
    (renaming, {"first": TORUS, "second": Mesh([3, 2, 0, 1]), "pairs": [(0, 0)]}, {}),
    (renaming, {"first": TORUS, "second": TORUS, "pairs": []}, {}),
    (lambda **given: list(small_meshes(**given)), {}, {"named": 1, "edges": 2}),
    (is_name, {"text": "abc"}, {}),
    (read_routine, {"text": samples.JOIN}, {}),
    (read_book, {"text": samples.BOOK}, {}),
    (TWICE.routine, {"name": "join"}, {}),
    (run, {"deed": JOIN, "mesh": TORUS, "halves": [0, 1]}, {}),
    (run, {"deed": TWICE, "mesh": TORUS, "halves": [0, 1]}, {}),
    (Partial, {"nexts": [None, 0]}, {}),
    (filled, {"partial": PARTIAL, "faces": FACES, "corners": CORNERS}, {}),
    (filled, {"partial": PARTIAL, "faces": FACES, "corners": CORNERS}, {"joined": [(0, 1), (3, 3)]}),
    (needed_edges, {"partial": PARTIAL, "faces": FACES, "corners": CORNERS}, {}),
    (needed_edges, {"partial": PARTIAL, "faces": FACES, "corners": CORNERS}, {"joined": ((0, 1), (3, 1))}),
    (picture, {"routine": JOIN, "mesh": TORUS, "halves": [0, 1]}, {}),
    (pictures, {"routine": JOIN}, {}),
    (breaks, {"deed": JOIN}, {}),
    (breaks, {"deed": BAD}, {}),
    (changes, {"deed": BOOK["bridge"]}, {}),
    (changes, {"deed": TWICE}, {}),
    (parting, {"first": JOIN, "second": BOOK["swapio"]}, {}),
    (needless, {"routine": BOOK["bridge"]}, {}),
    (needed_facts, {"routine": JOIN, "facts": ["a != b", "a.face == b.face", "a.next == b"]}, {}),
)
ERRORS = ((NotAMesh, {}), (BadLine, {"line": 3}), (UnknownName, {"line": 3, "name": "x"}),
          (WrongKind, {"line": 3, "name": "x"}), (FactFails, {"line": 3}), (Broken, {"fault": "links", "line": 3}),
          (NeverGiven, {}), (Breaks, {"mesh": TORUS, "halves": [1, 2]}), (UnknownDeed, {"name": "x"}),
          (UnknownMark, {"name": "x"}), (NothingToUndo, {}))


def plainly(value):
    """A value in which objects of the package are written out."""
    if isinstance(value, Mesh):
        return ("Mesh", value.nexts())
    if isinstance(value, Outcome):
        return ("Outcome", value.mesh.nexts(), value.told, value.kept)
    if isinstance(value, Partial):
        return ("Partial", value.nexts(), value.exits(), value.entries())
    if isinstance(value, (list, tuple)):
        return (type(value).__name__, [plainly(one) for one in value])
    if hasattr(value, "lines"):
        return ("deed", value.name, value.halves, value.told, value.lines, len(value))
    if hasattr(value, "names"):
        return ("book", [plainly(value[name]) for name in value.names()])
    return value


def inner(value):
    """All lists and dicts within a value."""
    found = [value] if isinstance(value, (list, dict)) else []
    if isinstance(value, Outcome):
        found += [value.told, value.kept]
    if isinstance(value, (list, tuple)):
        found += [one for part in value for one in inner(part)]
    return found


class Arguments(unittest.TestCase):
    def test_position_and_name(self):
        for function, given, named in CALLS:
            before = plainly(list(given.values()) + list(named.values()))
            first = function(*given.values(), **named)
            ways = [function(**dict(reversed(list({**given, **named}.items()))))]
            for many in range(len(given)):
                some = list(given.items())
                ways.append(function(*[value for _, value in some[:many]], **dict(some[many:]), **named))
            for one in ways:
                self.assertEqual(plainly(one), plainly(first), function)
            self.assertEqual(plainly(list(given.values()) + list(named.values())), before)

    def test_results_are_new(self):
        for function, given, named in CALLS:
            first, second = function(*given.values(), **named), function(*given.values(), **named)
            passed = inner(list(given.values()) + list(named.values()))
            parts = inner(first) + inner(second)
            self.assertEqual(len({id(one) for one in parts + passed}), len(parts) + len(passed), function)
            expected = copy.deepcopy(plainly(second))
            for one in inner(first):
                one.clear()
            self.assertEqual(plainly(second), expected)
            self.assertEqual(plainly(function(*given.values(), **named)), expected)

    def test_methods_without_parameters(self):
        for method in (TORUS.nexts, TORUS.faces, TORUS.corners, TORUS.pieces, TORUS.counts, TORUS.text, BOOK.names,
                       PARTIAL.nexts, PARTIAL.exits, PARTIAL.entries):
            first, second = method(), method()
            self.assertEqual(first, second)
            self.assertEqual(len({id(one) for one in inner(first) + inner(second)}), 2 * len(inner(first)))
            for one in inner(first):
                one.clear()
            self.assertEqual(method(), second)

    def test_copies(self):
        nexts, open_nexts = [1, 0], [None, 0]
        mesh, partial = Mesh(nexts), Partial(open_nexts)
        nexts.clear()
        open_nexts.clear()
        self.assertEqual((mesh.nexts(), partial.nexts()), ([1, 0], [None, 0]))

    def test_errors(self):
        for kind, values in ERRORS:
            for error in (kind(*values.values()), kind(**dict(reversed(list(values.items()))))):
                self.assertEqual({name: plainly(one) for name, one in vars(error).items()},
                                 {name: plainly(one) for name, one in values.items()})
            self.assertEqual(kind.__bases__, (MeshError,))
        self.assertEqual(MeshError.__bases__, (ValueError,))

    def test_live_meshes(self):
        first, second = LiveMesh(BOOK, TORUS), LiveMesh(mesh=TORUS, book=BOOK)
        first.mark("a", 0)
        second.mark(half=0, name="a")
        self.assertEqual(first.half("a"), second.half(name="a"))
        self.assertEqual(first.run("spur", "a"), second.run("spur", "a", tells=()))
        self.assertEqual(first.run("spur", "a", tells=["p"]), second.run("spur", "a", tells=("p",)))
        calls = [("join", ["a", "p"], ["q"]), ("spur", ("p",), ("p", "q"))]
        before = plainly(calls)
        self.assertEqual(first.run_all(calls), second.run_all(calls=calls))
        self.assertEqual(plainly(calls), before)
        self.assertEqual((first.mesh, first.marks()), (second.mesh, second.marks()))
        found = first.run_all(calls[1:] * 2) + [first.run("spur", "a"), first.marks(), first.marks()]
        self.assertEqual(len({id(one) for one in found + [calls[1][1], calls[1][2]]}), len(found) + 2)
        self.assertIsNone(first.undo())


if __name__ == "__main__":
    unittest.main()
