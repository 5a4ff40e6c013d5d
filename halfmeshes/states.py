"""Halves with links and labels that are being written, as in a run."""


class Label:
    """A label of a face or corner, with the halves that bore it at the start."""

    def __init__(self, kind, bearers):
        self.kind = kind
        self.bearers = bearers
        self.some = None
        self.dropped = False


class State:
    """The halves of a mesh and new ones, with links and labels or None.

    A new edge gets the next two numbers, so that the halves of all edges stay
    in their order, and twins are numbered as in a mesh.
    """

    def __init__(self, mesh):
        count = len(mesh)
        self.links = {"next": mesh.nexts(), "prev": [mesh.before(half) for half in range(count)]}
        self.borne = {"face": [None] * count, "corner": [None] * count}
        self.dropped = [False] * count
        self.labels = []
        for members in mesh.faces():
            self.add_label("face", members)
        for members in mesh.corners():
            self.add_label("corner", members)

    def add_label(self, kind, bearers):
        """Return a new label that some halves bear."""
        label = Label(kind, tuple(bearers))
        self.labels.append(label)
        for half in bearers:
            self.borne[kind][half] = label
        return label

    def add_edge(self):
        """Make an edge and return its even half."""
        half = len(self.dropped)
        self.dropped.extend([False, False])
        for link in ("next", "prev"):
            self.links[link].extend([None, None])
        for kind in ("face", "corner"):
            self.borne[kind].extend([None, None])
        return half

    def drop_edge(self, half):
        """Take away a half and its twin."""
        self.dropped[half] = True
        self.dropped[half ^ 1] = True

    def living(self):
        """Return the halves that were not dropped."""
        return [half for half, dropped in enumerate(self.dropped) if not dropped]

    def round_of(self, kind, start):
        """Return the halves of a face or corner; the links must be right."""
        members = [start]
        half = self._stepped(kind, start)
        while half != start:
            members.append(half)
            half = self._stepped(kind, half)
        return members

    def _stepped(self, kind, half):
        """Return the next half of the face, or of the corner."""
        if kind == "face":
            return self.links["next"][half]
        return self.links["prev"][half] ^ 1

    def links_are_right(self):
        """Tell whether the links of the halves form a mesh."""
        nexts = self.links["next"]
        prevs = self.links["prev"]
        return all([self._leads_back(half, nexts, prevs) and self._leads_back(half, prevs, nexts)
                    for half in self.living()])

    def _leads_back(self, half, there, back):
        """Tell whether a link leads to a living half whose other link leads back."""
        other = there[half]
        return other is not None and not self.dropped[other] and back[other] == half

    def labels_are_right(self, kind):
        """Tell whether the labels of faces or corners are right; the links must be."""
        bearers = {}
        for half in self.living():
            label = self.borne[kind][half]
            if label is None or label.dropped:
                return False
            bearers.setdefault(label, []).append(half)
        kept = [label for label in self.labels if label.kind == kind and not label.dropped]
        return all([self._is_right(label, bearers.get(label, [])) for label in kept])

    def _is_right(self, label, bearers):
        """Tell whether a label is right that just these halves bear."""
        if not bearers or sorted(self.round_of(label.kind, bearers[0])) != bearers:
            return False
        if label.some is not None:
            return label.some in bearers
        # Nothing was written, so a new label refers to no half at all, and one
        # of the start may refer to any half that bore it.
        return len(label.bearers) > 0 and all([half in bearers for half in label.bearers])
