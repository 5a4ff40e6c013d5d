"""Meshes that show a case with given ways, and the smallest meshes that show something."""

from halfmeshes.cases import KINDS
from halfmeshes.fillings import Partial, filled
from halfmeshes.likeness import small_meshes
from halfmeshes.meshes import Mesh
from halfmeshes.rounds import Rounds

# All meshes with so many edges are looked at.
MOST_EDGES = 4


class Ways:
    """The ways behind the ends of all chains: dicts from these to the starts of chains."""

    def __init__(self, faces, face_row, corners, corner_row):
        self.along_faces = dict(zip(faces.chains.ends, face_row))
        self.around_corners = dict(zip(corners.chains.ends, corner_row))


def some_ways(case):
    """Return ways that agree with all that is known of a case."""
    rounds = [Rounds(case, kind) for kind in KINDS]
    rows = [one.rows(1)[0] for one in rounds]
    return Ways(rounds[0], rows[0], rounds[1], rows[1])


class Plan:
    """How the halves that were met lie in a mesh, of which the rest is still open."""

    def __init__(self, case, ways):
        self.case = case
        self.ways = ways
        self.spots = _spots(case)
        self.known = [None] * (2 * len(set([spot // 2 for spot in self.spots])))
        for half, other in case.links["next"].items():
            self.known[self.spots[half]] = self.spots[other]

    def face_ways(self):
        """Return the dict of the entries to which the exits lead."""
        spots = self.spots
        found = {self._twin_spot(half): self._twin_spot(half) for half in self._unmet_twins()}
        found.update({spots[end]: spots[start] for end, start in self.ways.along_faces.items()})
        return found

    def corner_ways(self):
        """Return the dict of the exits to the twins of which the entries lead."""
        behind = self.case.links["next"]
        found = {}
        # A twin that was not met is the first half on the way around the corner
        # of the half behind it, or it is alone with halves of the rest.
        for half in self._unmet_twins():
            if half in behind:
                found[self._twin_spot(half)] = self._exit_of_corner(behind[half])
            else:
                found[self._twin_spot(half)] = self.spots[half]
        for half in range(self.case.many):
            if half not in self.case.links["prev"]:
                found[self.spots[half]] = self._exit_of_corner(half)
        return found

    def exit_of(self, half):
        """Return an exit whose way meets the rest at a half, at which there must be a rest."""
        links = self.case.links
        if half not in links["next"]:
            return self.spots[half]
        if half not in links["prev"]:
            ends = [end for end, start in self.ways.along_faces.items() if start == half]
            return self.spots[ends[0]]
        return self._twin_spot(half)

    def _unmet_twins(self):
        """Return the halves whose twins were not met."""
        return [half for half in range(self.case.many) if half not in self.case.links["twin"]]

    def _twin_spot(self, half):
        """Return the half of the mesh that is the twin of a half that was met."""
        return self.spots[half] ^ 1

    def _exit_of_corner(self, half):
        """Return the exit to the twin of which the way around a corner leads."""
        return self._twin_spot(self.ways.around_corners[half])


def _spots(case):
    """Return the list of the halves of a mesh that stand for those that were met."""
    spots = []
    edges = 0
    for half in range(case.many):
        twin = case.links["twin"].get(half, half)
        if twin < half:
            spots.append(spots[twin] ^ 1)
        else:
            spots.append(2 * edges)
            edges += 1
    return spots


def grown(case, ways, joined):
    """Return a mesh and halves with a case and its ways, and with pairs of halves joined in the rest."""
    plan = Plan(case, ways)
    pairs = [(plan.exit_of(first), plan.exit_of(second)) for first, second in joined]
    mesh = filled(Partial(plan.known), plan.face_ways(), plan.corner_ways(), joined=pairs)
    return mesh, [plan.spots[half] for half in case.passed]


def widely_grown(case, ways):
    """Return a mesh and halves with a case and its ways, each of which contains a half of the rest."""
    mesh, halves = grown(case, ways, [])
    plan = Plan(case, ways)
    nexts = mesh.nexts()
    for half, other in enumerate(plan.known):
        if other is None and nexts[half] < len(plan.known):
            # An edge of which both halves lie behind each other changes no other way.
            first = len(nexts)
            nexts.extend([nexts[half], first])
            nexts[half] = first + 1
    return Mesh(nexts), halves


def smallest(many, shows):
    """Return a mesh and halves with the fewest edges for which a function returns True, or None."""
    for edges in range(1, MOST_EDGES + 1):
        for mesh, halves in small_meshes(edges, many):
            if shows(mesh, halves):
                return (mesh, halves)
    return None
