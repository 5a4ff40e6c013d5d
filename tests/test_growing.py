"""Points 7, 29, 31, 33 and 34: meshes that are made for what is known of a run, large ones too.

The functions of the interface return such meshes only where no small mesh will do.
"""

import unittest

from halfmeshes.changes import known_changes
from halfmeshes.comparing import parting_case
from halfmeshes.errors import NeverGiven
from halfmeshes.growing import Plan, Ways, grown, some_ways, widely_grown
from halfmeshes.judging import broken_case
from halfmeshes.pictures import picture
from halfmeshes.rounds import Rounds
from halfmeshes.searching import Search
from halfmeshes.texts import read_routine
from tests import drawing, looking, plain
from tests.looking import BREAKS, FAILS
from tests.test_breaks import TWO, routine
from tests.test_comparing import differs
from tests.test_script_breaks import script


def drawn_deed(seed):
    """A routine or a script within the limits, or None."""
    draws = drawing.Draws(seed)
    if seed % 4 == 0:
        deed = script(*drawing.drawn_chain(seed))
    else:
        lines = list(draws.pick([deed.lines for deed in TWO.values()]))
        if draws.chance(1, 2):
            lines = drawing.changed_lines(draws, lines)
        paths = [name + links for name in lines[0].split(" ")[2:] for links in ("", ".next", ".twin", ".prev.twin")]
        for _ in range(draws.below(4)):
            kind = draws.pick(("", ".face", ".corner"))
            lines.insert(1, f"given {draws.pick(paths)}{kind} {draws.pick(('==', '!='))} {draws.pick(paths)}{kind}")
        if plain.fault_of_routine("\n".join(lines)) is not None:
            return None
        deed = read_routine("\n".join(lines))
    return deed if looking.is_within_limits(deed) else None


class Grown(unittest.TestCase):
    def test_breaks(self):
        many = 0
        for seed in range(900):
            deed = drawn_deed(seed)
            if deed is not None:
                try:
                    broken = broken_case(deed)
                except NeverGiven:
                    continue
                if broken is not None:
                    mesh, halves = widely_grown(*broken)
                    self.assertEqual(looking.result(deed, mesh, halves), BREAKS, deed.lines)
                    self.assertLessEqual(mesh.edges, 30)
                    many += 1
        self.assertGreater(many, 150)

    def test_changes(self):
        many = 0
        for seed in range(1000, 1700):
            deed = drawn_deed(seed)
            if deed is not None:
                try:
                    if broken_case(deed) is not None:
                        continue
                except NeverGiven:
                    continue
                for change, (case, ways, joined) in known_changes(deed).items():
                    mesh, halves = grown(case, ways, joined)
                    self.assertEqual(looking.result(deed, mesh, halves), change, (deed.lines, joined))
                    self.assertLessEqual(mesh.edges, 30)
                    many += bool(joined)
        self.assertGreater(many, 20)

    def test_cases_with_wide_ways(self):
        # A mesh with a half of the rest on each way has the same picture.
        ask = ["if a.face == t.face", "end", "if a.corner == t.corner", "end"]
        more = [routine("a", "let t = a.twin", *ask), routine("a", "let t = a.twin", "let b = t.next", *ask),
                routine("a t", "let b = a.twin", "let c = t.twin", *ask)]
        many = 0
        for deed in more + list(TWO.values()):
            search = Search([deed])
            case = search.ended()
            while case is not None:
                rounds = [Rounds(case, kind) for kind in ("face", "corner")]
                for face_row in rounds[0].rows()[:8]:
                    for corner_row in rounds[1].rows()[:8]:
                        many += self.look(deed, case, Ways(rounds[0], face_row, rounds[1], corner_row))
                case = search.ended()
        self.assertGreater(many, 20)

    def look(self, deed, case, ways):
        """Look at the meshes of a case, and tell whether the wide one is larger."""
        mesh, halves = grown(case, ways, [])
        wide, same = widely_grown(case, ways)
        self.assertEqual(same, halves)
        for one in (mesh, wide):
            self.assertEqual(picture(deed, one, halves), case.picture(), deed.lines)
            self.assertNotIn(looking.result(deed, one, halves), (FAILS, BREAKS))
        spots = Plan(case, ways).spots
        for end, start in ways.along_faces.items():
            self.assertTrue(mesh.is_one_face(spots[end], spots[start]))
            self.assertTrue(wide.is_one_face(spots[end], spots[start]))
            self.assertNotIn(wide.after(spots[end]), spots)
        for end, start in ways.around_corners.items():
            self.assertTrue(mesh.is_one_corner(spots[end], spots[start]))
            self.assertTrue(wide.is_one_corner(spots[end], spots[start]))
            self.assertNotIn(wide.turned(spots[end]), spots)
        return len(wide) > len(mesh)

    def test_partings(self):
        many = 0
        for first in TWO.values():
            for second in TWO.values():
                if len(first.halves) == len(second.halves) and looking.is_within_limits(first, second):
                    case = parting_case(first, second)
                    if case is not None:
                        mesh, halves = grown(case, some_ways(case), [])
                        self.assertIs(differs(first, second, mesh, halves), True)
                        many += 1
        self.assertGreater(many, 30)


if __name__ == "__main__":
    unittest.main()
