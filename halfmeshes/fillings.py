"""Partial meshes, and meshes that extend them."""

from halfmeshes.errors import NotAMesh
from halfmeshes.meshes import Mesh, are_halves


class Partial:
    """A mesh in which some next links are not known; it never changes."""

    def __init__(self, nexts):
        links = list(nexts)
        known = [other for other in links if other is not None]
        if len(links) % 2 == 1 or not are_halves(known, len(links)):
            raise NotAMesh()
        self._nexts = links

    def nexts(self):
        """Return the list of the next links, None where one is not known."""
        return list(self._nexts)

    def exits(self):
        """Return the ascending list of the halves without a next half."""
        return [half for half, other in enumerate(self._nexts) if other is None]

    def entries(self):
        """Return the ascending list of the halves that are the next half of none."""
        reached = {other: True for other in self._nexts}
        return [half for half in range(len(self._nexts)) if half not in reached]


def filled(partial, faces, corners, *, joined=()):
    """Return a mesh with as few edges as possible that extends a partial one."""
    nexts = partial.nexts()
    for half in partial.exits():
        nexts[half] = faces[half]
    draft = Draft(nexts)
    # Without new edges, the way around the corner of an entry leads to the
    # twin of the exit ahead of it.
    ends = {faces[half]: half for half in partial.exits()}
    for entry in partial.entries():
        other = _entry_that_leads(ends, corners[entry])
        if other != entry:
            draft.add_edge(entry, other)
            ends[other] = ends[entry]
            ends[entry] = corners[entry]
    # A second edge exchanges the same ends back, so both only connect.
    for first, second in _missing_links(partial, faces, corners, joined):
        draft.add_edge(faces[first], faces[second])
        draft.add_edge(faces[first], faces[second])
    return draft.as_mesh()


def needed_edges(partial, faces, corners, *, joined=()):
    """Return the number of edges in the rest of the filled mesh."""
    rounds = _rounds(partial, faces, corners)
    links = _missing_links(partial, faces, corners, joined)
    return len(partial.exits()) - len(rounds) + 2 * len(links)


class Draft:
    """A mesh to which edges are added ahead of the halves that it has at first."""

    def __init__(self, nexts):
        self.behind = list(nexts)
        self.ahead = {other: half for half, other in enumerate(nexts)}

    def add_edge(self, first, second):
        """Add an edge with a half directly ahead of each of two halves.

        The ways around the two corners are exchanged at their ends, and no
        other way changes.
        """
        for half in (first, second):
            new = len(self.behind)
            self.behind[self.ahead[half]] = new
            self.behind.append(half)
            self.ahead[half] = new

    def as_mesh(self):
        """Return the mesh as it is."""
        return Mesh(self.behind)


def _entry_that_leads(ends, wanted):
    """Return the entry whose way leads to the twin of an exit."""
    return [entry for entry, end in ends.items() if end == wanted][0]


def _rounds(partial, faces, corners):
    """Return the lists of the exits that follow each other by faces and corners."""
    found = []
    seen = {}
    for start in partial.exits():
        members = []
        half = start
        while half not in seen:
            seen[half] = True
            members.append(half)
            half = corners[faces[half]]
        if members:
            found.append(members)
    return found


def _missing_links(partial, faces, corners, joined):
    """Return the tuples of exits that nothing ahead of them connects."""
    classes = {}
    for number, members in enumerate(_rounds(partial, faces, corners)):
        for half in members:
            classes[half] = number
    found = []
    for first, second in joined:
        old = classes[second]
        new = classes[first]
        if old != new:
            found.append((first, second))
            classes = {half: new if number == old else number for half, number in classes.items()}
    return found
