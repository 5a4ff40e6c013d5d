"""Point 26: partial meshes."""

import unittest

from halfmeshes.errors import NotAMesh
from halfmeshes.fillings import Partial
from tests import drawing, helpers


def drawn_partial(draws, edges, most=14):
    """The links of a mesh, some of them left out."""
    nexts = helpers.shuffled(range(2 * edges), draws.below(10 ** 6))
    for _ in range(draws.below(most + 1)):
        if nexts:
            nexts[draws.below(len(nexts))] = None
    return nexts


class Partials(unittest.TestCase):
    def check(self, nexts):
        passed = list(nexts)
        partial = Partial(passed)
        exits = [half for half in range(len(nexts)) if nexts[half] is None]
        entries = [half for half in range(len(nexts)) if half not in nexts]
        passed.append(99)
        for _ in range(2):
            found = [partial.nexts(), partial.exits(), partial.entries()]
            self.assertEqual(found, [nexts, exits, entries])
            self.assertEqual(len(exits), len(entries))
            for one in found:
                one.append(7)

    def test_drawn(self):
        for seed in range(600):
            draws = drawing.Draws(seed)
            self.check(drawn_partial(draws, draws.below(8)))

    def test_known(self):
        self.check([])
        self.check([None, None])
        self.check([0, None])
        self.check([None, 0, 3, None])
        self.check([None] * 14)
        self.check(list(range(14)))

    def test_wrong(self):
        for nexts in ([None], [0, 1, 2], [None] * 13, [0, 0], [None, 2], [-1, None], [0, 4, None, None],
                      [3, None, 3, None], [None, 7, None, 7, None, None, None, None], [None, True],
                      [1, 2, 3, 4, 5, 6, 7, 8, 9, 10, 11, 12, 13, 14]):
            with self.assertRaises(NotAMesh):
                Partial(nexts)
        for seed in range(300):
            draws = drawing.Draws(seed)
            nexts = drawn_partial(draws, 1 + draws.below(7))
            at = draws.below(len(nexts))
            others = [other for place, other in enumerate(nexts) if other is not None and place != at]
            nexts[at] = draws.pick([-1, len(nexts), len(nexts) + 3] + others)
            with self.assertRaises(NotAMesh):
                Partial(nexts)

    def test_arguments(self):
        nexts = [None, 0]
        self.assertEqual(Partial(nexts=nexts).exits(), [0])
        self.assertEqual(nexts, [None, 0])


if __name__ == "__main__":
    unittest.main()
