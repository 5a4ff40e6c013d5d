"""Point 37: the facts that a routine needs."""

import unittest
from itertools import combinations

from halfmeshes.errors import BadLine, NeverGiven, UnknownName
from halfmeshes.facts import needed_facts
from halfmeshes.judging import breaks
from halfmeshes.texts import read_routine
from tests import drawing, looking, samples
from tests.looking import BREAKS
from tests.test_breaks import TWO, routine


def with_facts(deed, facts):
    """A routine with other facts instead of its own ones."""
    lines = [line for line in deed.lines if not line.startswith("given ")]
    return read_routine("\n".join(lines[:1] + ["given " + fact for fact in facts] + lines[1:]))


class Needed(unittest.TestCase):
    def check(self, deed, facts):
        """The sets that are told; they are looked at, and so are all others that are no larger."""
        passed = list(facts)
        found = needed_facts(deed, passed)
        self.assertEqual(passed, facts)
        self.assertEqual(found, sorted(found))
        self.assertLessEqual(len({len(one) for one in found}), 1)
        most = len(found[0]) if found else len(facts)
        for many in range(most + 1):
            for chosen in combinations(range(len(facts)), many):
                other = with_facts(deed, [facts[index] for index in chosen])
                try:
                    broken = breaks(other)
                except NeverGiven:
                    self.assertNotIn(list(chosen), found)
                    continue
                self.assertEqual(list(chosen) in found, broken is None, (deed.lines, facts, chosen))
                if broken is not None:
                    self.assertEqual(looking.result(other, *broken), BREAKS)
        return found

    def test_right_routines(self):
        # Each of their facts is needed.
        for name, deed in TWO.items():
            facts = [line[len("given "):] for line in deed.lines if line.startswith("given ")]
            expected = [] if name == "repaint" else list(range(len(facts)))
            self.assertEqual(self.check(deed, facts), [expected], name)
            if expected:
                self.assertEqual(self.check(deed, facts[1:]), [], name)

    def test_no_facts(self):
        self.assertEqual(self.check(TWO["spur"], []), [[]])
        self.assertEqual(self.check(TWO["join"], []), [])
        self.assertEqual(self.check(TWO["spur"], ["a.next == a", "a != a"]), [[]])

    def test_example(self):
        facts = ["a != b", "a.face == b.face", "a.corner == b.corner", "a.next == b"]
        self.assertEqual(self.check(TWO["join"], facts), [[0, 1], [0, 3]])

    def test_several_sets(self):
        facts = ["a.next != a", "a.face == b.face", "b != a", "b.face == a.face", "a != b"]
        self.assertEqual(self.check(TWO["join"], facts), [[1, 2], [1, 4], [2, 3], [3, 4]])
        facts = ["a.face != b.face", "a.next == a", "b.next == b", "a != b", "a.corner != b.corner"]
        self.assertEqual(self.check(TWO["bridge"], facts)[0], [0])
        deed = routine("a", "drop a")
        facts = ["a.next == a", "a.prev == a.twin", "a.next == a.twin", "a.twin.next == a.twin", "a.face == a.twin.face"]
        self.assertEqual(self.check(deed, facts), [])
        facts = ["a.face == b.face", "a.face != b.face"]
        self.assertEqual(self.check(routine("a b", "if a.face == b.face", "drop a", "end"), facts), [[1]])
        # Facts that contradict each other are never enough.
        self.assertEqual(self.check(routine("a", "drop a"), ["a.next == a", "a.next != a"]), [])

    def test_own_facts_are_ignored(self):
        for facts in ([], ["given a == b"], ["given a.face == b.face", "given a != b"], ["given a.face != a.face"]):
            lines = [line for line in samples.JOIN.split("\n") if not line.startswith("given ")]
            deed = read_routine("\n".join(lines[:1] + facts + lines[1:]))
            self.assertEqual(self.check(deed, ["a != b", "a.face == b.face"]), [[0, 1]])
            self.assertEqual(deed.lines[1:1 + len(facts)], tuple(facts))

    def test_own_facts_ahead_of_blocks(self):
        lines = samples.RIGHT["halve"].split("\n")
        deed = read_routine("\n".join(lines[:1] + ["given a.next != a", "given a.next != a.twin"] + lines[1:]))
        self.assertEqual(self.check(deed, ["a.next == a.twin", "a.next == a"]), [[]])
        lines.remove("m.next = q")
        self.assertEqual(self.check(read_routine("\n".join(lines)), ["a.next != a", "a.next == a.twin"]), [[1]])

    def test_wrong_conditions(self):
        good = ["a != b", "a.face == b.face", "b.next.next.next.next == a", "a == a"]
        deed = TWO["join"]
        bad_lines = ["", "a", "a ==", "a == b.face", "a.face == b", "a = b", "a  == b", " a == b", "a == b ", "a < b",
                     "a.next.next.next.next.next == b", "a == b.twin.twin.twin.twin.twin.face", "a.some == b.some",
                     "given a == b", "a == b == a", "A == b", "a == ninechars", "a.face.next == b", "a.corner != b.face",
                     "a\n== b", "a == b\n", ".next == a", "a..next == b"]
        for index in range(5):
            for text in bad_lines:
                with self.assertRaises(BadLine) as caught:
                    needed_facts(deed, good[:index] + [text] + ["c == c", ""][:4 - index])
                self.assertEqual(caught.exception.line, index, text)
            for text, name in (("c == a", "c"), ("a == d.next", "d"), ("x.face == y.face", "x"), ("p == q", "p"),
                               ("1 == a", "1"), ("face == a", "face"), ("a.next.corner == join.corner", "join")):
                with self.assertRaises(UnknownName) as caught:
                    needed_facts(deed, good[:index] + [text] + ["", "zz == a"][:4 - index])
                self.assertEqual((caught.exception.line, caught.exception.name), (index, name))

    def test_drawn(self):
        seen = {}
        paths = ["a", "b", "a.next", "b.prev", "a.twin", "b.next"]
        for seed in range(120):
            draws = drawing.Draws(seed + 4)
            deed = draws.pick([one for one in TWO.values() if len(one.halves) == 2])
            facts = [line[len("given "):] for line in deed.lines if line.startswith("given ")]
            for _ in range(draws.below(4)):
                kind = draws.pick(("", ".face", ".corner"))
                facts.insert(draws.below(len(facts) + 1),
                             f"{draws.pick(paths)}{kind} {draws.pick(('==', '!='))} {draws.pick(paths)}{kind}")
            facts = facts[:5]
            if all(looking.is_within_limits(with_facts(deed, facts[:many])) for many in range(len(facts) + 1)):
                found = self.check(deed, facts)
                seen[len(found)] = seen.get(len(found), 0) + 1
        self.assertTrue(seen[1] > 20 and max(seen) > 1, seen)

    def test_results_are_new(self):
        facts = ["a != b", "a.face == b.face", "a.next == b"]
        first = needed_facts(facts=facts, routine=TWO["join"])
        self.assertEqual(first, [[0, 1], [0, 2]])
        self.assertIsNot(first[0], first[1])
        first[0].append(5)
        self.assertEqual(needed_facts(TWO["join"], facts), [[0, 1], [0, 2]])


if __name__ == "__main__":
    unittest.main()
