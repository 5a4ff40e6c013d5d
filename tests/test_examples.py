"""The examples of the interface, and those of the README.

>>> from halfmeshes.meshes import Mesh, read_mesh
>>> from halfmeshes.likeness import numbered, renaming, small_meshes

>>> loop = Mesh([0, 1])
>>> loop.faces(), loop.corners(), loop.counts()
([[0], [1]], [[0, 1]], (2, 1, 1, 1, 0))
>>> torus = read_mesh("0 2 1 3")
>>> torus.nexts(), torus.corners(), torus.counts()
([2, 3, 1, 0], [[0, 2, 1, 3]], (1, 1, 2, 1, 1))

>>> mesh = read_mesh("0 2 1 3")
>>> new, halves = numbered(mesh, [1, 2])
>>> new.nexts(), halves
([2, 3, 1, 0], [0, 3])
>>> sorted(renaming(mesh, mesh, [(0, 1)]).items())
[(0, 1), (1, 0), (2, 3), (3, 2)]
>>> len(list(small_meshes(2, 1))), len(list(small_meshes(1, 2)))
(10, 4)
"""

import doctest
import os
import unittest

README = os.path.join(os.path.dirname(__file__), "..", "README.md")


def load_tests(loader, tests, pattern):
    tests.addTests(doctest.DocTestSuite(__name__))
    tests.addTests(doctest.DocFileSuite(os.path.abspath(README), module_relative=False))
    return tests


if __name__ == "__main__":
    unittest.main()
