"""A mesh that is changed by the deeds of a book, with marks on its halves."""

from halfmeshes.errors import NothingToUndo, UnknownMark
from halfmeshes.runs import run


class LiveMesh:
    """A mesh with marks, which are names of halves."""

    def __init__(self, book, mesh):
        self.mesh = mesh
        self._book = book
        self._places = {}
        self._past = []

    def mark(self, name, half):
        """Give a mark to a half, or move the mark."""
        self._places[name] = half

    def half(self, name):
        """Return the half with a mark."""
        return _marked(self._places, name)

    def marks(self):
        """Return the ascending list of the marks."""
        return sorted(self._places)

    def run(self, name, *marks, tells=()):
        """Run a deed on the halves of some marks, and return the halves that it tells."""
        return self.run_all([(name, marks, tells)])[0]

    def run_all(self, calls):
        """Run deeds one behind the other, all of them or none, and return the lists of told halves."""
        mesh = self.mesh
        places = dict(self._places)
        found = []
        for name, marks, tells in calls:
            outcome = run(self._book[name], mesh, [_marked(places, mark) for mark in marks])
            mesh = outcome.mesh
            places = {mark: outcome.kept[half] for mark, half in places.items() if half in outcome.kept}
            for mark, half in zip(tells, outcome.told):
                places[mark] = half
            found.append(list(outcome.told))
        self._past.append((self.mesh, self._places))
        self.mesh = mesh
        self._places = places
        return found

    def undo(self):
        """Undo the last call that has not been undone."""
        if not self._past:
            raise NothingToUndo()
        self.mesh, self._places = self._past.pop()


def _marked(places, name):
    """Return the half with a mark."""
    if name not in places:
        raise UnknownMark(name)
    return places[name]
