"""The examples of the interface, and those of the README.

>>> from halfmeshes.meshes import Mesh, read_mesh
>>> from halfmeshes.likeness import numbered, renaming, small_meshes

>>> loop = Mesh([0, 1])
>>> loop.faces(), loop.corners(), loop.counts()
([[0], [1]], [[0, 1]], (2, 1, 1, 1, 0))
>>> torus = read_mesh("0 2 1 3")
>>> torus.nexts(), torus.corners(), torus.counts()
([2, 3, 1, 0], [[0, 2, 1, 3]], (1, 1, 2, 1, 1))

>>> mesh = read_mesh("0 2 1 3")
>>> new, halves = numbered(mesh, [1, 2])
>>> new.nexts(), halves
([2, 3, 1, 0], [0, 3])
>>> sorted(renaming(mesh, mesh, [(0, 1)]).items())
[(0, 1), (1, 0), (2, 3), (3, 2)]
>>> len(list(small_meshes(2, 1))), len(list(small_meshes(1, 2)))
(10, 4)

>>> from halfmeshes.books import read_book
>>> from halfmeshes.errors import Broken
>>> from halfmeshes.runs import run
>>> from halfmeshes.texts import read_routine

>>> join = "routine join a b\\ngiven a.face == b.face\\ngiven a != b\\nlet c = a.prev\\nlet d = b.prev"
>>> join = join + "\\nlet g = a.face\\nlet u = a.corner\\nlet v = b.corner\\nmake p q"
>>> join = join + "\\nc.next = p\\np.prev = c\\np.next = b\\nb.prev = p\\nd.next = q\\nq.prev = d\\nq.next = a\\na.prev = q"
>>> join = join + "\\np.face = g\\ng.some = p\\nnew face f\\nround q.face = f\\nf.some = q"
>>> join = join + "\\np.corner = u\\nq.corner = v\\ntell p"
>>> routine = read_routine(join)
>>> routine.halves, routine.told, len(routine)
(('a', 'b'), ('p',), 25)

>>> outcome = run(routine, Mesh([1, 0]), [0, 1])
>>> outcome.mesh.faces(), outcome.told, sorted(outcome.kept.items())
([[0, 3], [1, 2]], [2], [(0, 0), (1, 1)])
>>> bad = read_routine("routine bad a\\nlet b = a.next\\na.next = a")
>>> run(bad, Mesh([0, 1]), [0]).mesh.nexts()
[0, 1]
>>> try:
...     run(bad, Mesh([1, 0]), [0])
... except Broken as e:
...     print(e.fault, e.line)
links 4

>>> book = read_book(join + "\\n\\nscript twice a b\\ngiven a.face == b.face\\ngiven a != b\\ncall p = join a b\\ncall join p b")
>>> book.names(), book["twice"].halves, len(book["twice"])
(['join', 'twice'], ('a', 'b'), 5)
>>> run(book["twice"], Mesh([1, 0]), [0, 1]).mesh.counts()
(3, 2, 3, 1, 0)

>>> from halfmeshes.fillings import Partial, filled, needed_edges
>>> from halfmeshes.pictures import picture, pictures
>>> from halfmeshes.judging import breaks
>>> from halfmeshes.changes import changes
>>> from halfmeshes.comparing import needless, parting
>>> from halfmeshes.facts import needed_facts
>>> from halfmeshes.live import LiveMesh

>>> partial = Partial([None, None])
>>> needed_edges(partial, {0: 0, 1: 1}, {0: 0, 1: 1}), needed_edges(partial, {0: 0, 1: 1}, {0: 1, 1: 0})
(0, 1)
>>> filled(partial, {0: 0, 1: 1}, {0: 1, 1: 0}).counts()
(2, 2, 2, 1, 0)
>>> needed_edges(partial, {0: 0, 1: 1}, {0: 0, 1: 1}, joined=[(0, 1)])
2

>>> picture(routine, Mesh([1, 0]), [0, 1])
([0, 1], [(0, 'prev', 1), (1, 'prev', 0)], [])
>>> len(pictures(read_routine("routine look a\\nlet b = a.next\\nlet c = b.twin")))
3

>>> breaks(routine) is None
True
>>> mesh, halves = breaks(read_routine(join.replace("\\ngiven a != b", "")))
>>> mesh.edges, halves[0] == halves[1]
(1, True)

>>> len(changes(routine)), changes(routine)[0][0]
(1, (1, 0, 1, 0, 0))

>>> nothing = read_routine("routine nothing a b\\ngiven a.face == b.face\\ngiven a != b")
>>> mesh, halves = parting(routine, nothing)
>>> mesh.edges, needless(routine)
(1, [])

>>> needed_facts(routine, ["a != b", "a.face == b.face", "a.corner == b.corner", "a.next == b"])
[[0, 1], [0, 3]]

>>> live = LiveMesh(book, Mesh([1, 0]))
>>> live.mark("a", 0)
>>> live.mark("b", 1)
>>> live.run("join", "a", "b", tells=["p"])
[2]
>>> live.run_all([("join", ["p", "b"], ["q"]), ("twice", ["q", "b"], [])])
[[4], []]
>>> live.half("q"), live.mesh.counts()
(4, (5, 2, 5, 1, 0))
>>> live.undo()
>>> live.marks(), live.mesh.counts()
(['a', 'b', 'p'], (2, 2, 2, 1, 0))
"""

import doctest
import os
import unittest

README = os.path.join(os.path.dirname(__file__), "..", "README.md")


def load_tests(loader, tests, pattern):
    tests.addTests(doctest.DocTestSuite(__name__))
    tests.addTests(doctest.DocFileSuite(os.path.abspath(README), module_relative=False))
    return tests


if __name__ == "__main__":
    unittest.main()
