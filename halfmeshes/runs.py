"""Runs of routines and scripts on meshes."""

from halfmeshes.books import Script
from halfmeshes.errors import Broken, FactFails
from halfmeshes.lines import HALF
from halfmeshes.meshes import Mesh
from halfmeshes.states import Label, State


class Outcome:
    """The mesh at the end of a run, and the new numbers of halves."""

    def __init__(self, mesh, told, kept):
        self.mesh = mesh
        self.told = list(told)
        self.kept = dict(kept)


def run(deed, mesh, halves):
    """Run a routine or script on a mesh and return the outcome."""
    check_facts(deed, mesh, halves)
    return run_given(deed, mesh, halves)


def run_given(deed, mesh, halves):
    """Run a deed whose facts hold, and return the outcome."""
    if isinstance(deed, Script):
        return _run_script(deed, mesh, halves)
    return _run_routine(deed, mesh, halves)


def check_facts(deed, mesh, halves):
    """Raise the error for the first fact that does not hold."""
    meanings = dict(zip(deed.halves, halves))
    for at, step in enumerate(deed.steps):
        if step.action == "given" and not _holds(mesh, meanings, step.detail):
            raise FactFails(at + 1)


def _holds(mesh, meanings, condition):
    """Tell whether a condition holds on a mesh."""
    first = _reached(mesh, meanings[condition.left.name], condition.left.links)
    second = _reached(mesh, meanings[condition.right.name], condition.right.links)
    return are_same(mesh, condition.left.kind, first, second) == condition.equal


def are_same(mesh, kind, first, second):
    """Tell whether two halves are one half of a mesh, or in one face or corner."""
    if kind == "face":
        return mesh.is_one_face(first, second)
    if kind == "corner":
        return mesh.is_one_corner(first, second)
    return first == second


def _reached(mesh, start, links):
    """Return the half that is reached by some links of a mesh."""
    half = start
    for link in links:
        half = link_of(mesh, half, link)
    return half


def link_of(mesh, half, link):
    """Return the half of a mesh to which a link leads."""
    if link == "next":
        return mesh.after(half)
    if link == "prev":
        return mesh.before(half)
    return mesh.twin(half)


class Work:
    """A run of a routine: the state, what the names mean, and the line."""

    def __init__(self, routine, mesh, halves):
        self.state = State(mesh)
        self.meanings = dict(zip(routine.halves, halves))
        self.line = 1
        self.has_labels = False

    def half_of(self, name):
        """Return the half that a name means."""
        half = self.meanings[name]
        if self.state.dropped[half]:
            raise Broken("dead", self.line)
        return half

    def label_of(self, name):
        """Return the label that a name means."""
        label = self.meanings[name]
        if label.dropped:
            raise Broken("dead", self.line)
        return label

    def value_of(self, path):
        """Return the half or the label to which a path leads."""
        half = self.half_of(path.name)
        for link in path.links:
            half = self._followed(half, link)
        if path.kind == HALF:
            return half
        label = self.state.borne[path.kind][half]
        if label is None:
            raise Broken("unset", self.line)
        return label

    def _followed(self, half, link):
        """Return the half to which a link leads."""
        if link == "twin":
            return half ^ 1
        other = self.state.links[link][half]
        if other is None:
            raise Broken("unset", self.line)
        if self.state.dropped[other]:
            raise Broken("dead", self.line)
        return other

    def holds(self, condition):
        """Tell whether a condition holds."""
        first = self.value_of(condition.left)
        second = self.value_of(condition.right)
        return (first == second) == condition.equal

    def begin_labels(self):
        """Look at the links ahead of the first label line."""
        if not self.has_labels and not self.state.links_are_right():
            raise Broken("links", self.line)
        self.has_labels = True


def _let(work, step):
    """let X = P, let F = P.face, let C = P.corner"""
    work.meanings[step.news[0]] = work.value_of(step.detail)


def _make(work, step):
    """make X Y"""
    half = work.state.add_edge()
    work.meanings[step.news[0]] = half
    work.meanings[step.news[1]] = half ^ 1


def _link(work, step):
    """X.next = Y, X.prev = Y"""
    first, second = [work.half_of(name) for name in step.used]
    work.state.links[step.detail][first] = second


def _drop(work, step):
    """drop X, drop F, drop C"""
    name = step.used[0]
    if isinstance(work.meanings[name], Label):
        work.begin_labels()
        label = work.label_of(name)
        label.dropped = True
    else:
        work.state.drop_edge(work.half_of(name))


def _new(work, step):
    """new face F, new corner C"""
    work.begin_labels()
    work.meanings[step.news[0]] = work.state.add_label(step.kind, [])


def _label(work, step):
    """X.face = F, X.corner = C"""
    work.begin_labels()
    half, label = _half_and_label(work, step)
    work.state.borne[step.kind][half] = label


def _round(work, step):
    """round X.face = F, round X.corner = C"""
    work.begin_labels()
    start, label = _half_and_label(work, step)
    for half in work.state.round_of(step.kind, start):
        work.state.borne[step.kind][half] = label


def _half_and_label(work, step):
    """Return the half whose label a line writes, and the label."""
    return work.half_of(step.used[0]), work.label_of(step.used[1])


def _some(work, step):
    """F.some = X, C.some = X"""
    work.begin_labels()
    label = work.label_of(step.used[0])
    label.some = work.half_of(step.used[1])


def _tell(work, step):
    """tell X .."""
    for name in step.used:
        work.half_of(name)


ACTIONS = {
    "let": _let,
    "make": _make,
    "link": _link,
    "drop": _drop,
    "new": _new,
    "label": _label,
    "round": _round,
    "some": _some,
    "tell": _tell,
}


def _run_routine(routine, mesh, halves):
    """Run a routine whose facts hold."""
    work = Work(routine, mesh, halves)
    at = 0
    while at < len(routine.steps):
        step = routine.steps[at]
        work.line = at + 1
        if step.action == "else" or (step.action == "if" and not work.holds(step.detail)):
            at = routine.jumps[at]
        else:
            if step.action in ACTIONS:
                action = ACTIONS[step.action]
                action(work, step)
            at += 1
    work.line = len(routine) + 1
    _check_end(work)
    return _outcome(work, routine, len(mesh))


def _check_end(work):
    """Raise the error if the links or the labels are not right at the end."""
    if not work.state.links_are_right():
        raise Broken("links", work.line)
    if not work.state.labels_are_right("face"):
        raise Broken("faces", work.line)
    if not work.state.labels_are_right("corner"):
        raise Broken("corners", work.line)


def _outcome(work, routine, count):
    """Return the outcome of a run on a mesh with so many halves."""
    living = work.state.living()
    numbers = {half: number for number, half in enumerate(living)}
    nexts = [numbers[work.state.links["next"][half]] for half in living]
    told = [numbers[work.meanings[name]] for name in routine.told]
    kept = {half: numbers[half] for half in living if half < count}
    return Outcome(Mesh(nexts), told, kept)


class ScriptWork:
    """A run of a script: the mesh as it is, and the halves that it knows.

    Each half keeps the number that it would have if no edge were dropped;
    `places` leads from these numbers to the halves of the mesh.
    """

    def __init__(self, script, mesh, halves):
        self.mesh = mesh
        self.places = {half: half for half in range(len(mesh))}
        self.many = len(mesh)
        self.meanings = dict(zip(script.halves, halves))
        self.line = 1

    def half_of(self, name):
        """Return the half of the mesh that a name means."""
        half = self.meanings[name]
        if half not in self.places:
            raise Broken("dead", self.line)
        return self.places[half]

    def mean(self, name, half):
        """Let a name mean a half of the mesh."""
        numbers = {place: number for number, place in self.places.items()}
        self.meanings[name] = numbers[half]

    def go_on(self, outcome):
        """Go on with the mesh behind a call."""
        places = {number: outcome.kept[half] for number, half in self.places.items() if half in outcome.kept}
        for half in range(len(outcome.kept), len(outcome.mesh)):
            places[self.many] = half
            self.many += 1
        self.places = places
        self.mesh = outcome.mesh


def _run_script(script, mesh, halves):
    """Run a script whose facts hold."""
    work = ScriptWork(script, mesh, halves)
    told = []
    for at, step in enumerate(script.steps):
        work.line = at + 1
        if step.action == "let":
            path = step.detail
            work.mean(step.news[0], _reached(work.mesh, work.half_of(path.name), path.links))
        elif step.action == "call":
            _call(work, script.routine(step.detail), step)
        elif step.action == "tell":
            told = [work.half_of(name) for name in step.used]
    kept = {half: work.places[half] for half in range(len(mesh)) if half in work.places}
    return Outcome(work.mesh, told, kept)


def _call(work, routine, step):
    """Run a routine that a script calls."""
    halves = [work.half_of(name) for name in step.used]
    try:
        outcome = run(routine, work.mesh, halves)
    except FactFails:
        raise Broken("facts", work.line) from None
    except Broken as error:
        raise Broken(error.fault, work.line) from None
    work.go_on(outcome)
    for name, half in zip(step.news, outcome.told):
        work.mean(name, half)
