"""Runs of deeds on a mesh of which only that is known which they have read.

A label is a tuple of its kind, of "old" or "new", and of a half that bore it
when the routine began, or of the number of the new label. Whether two labels
are one depends on the mesh, so the label lines are only noted.
"""

from halfmeshes.books import Script
from halfmeshes.cases import FIRST_MADE, KINDS, Frame, Span, Stage
from halfmeshes.errors import Broken
from halfmeshes.lines import HALF

# What a link leads to if it was not read: some half that was not met.
NOT_MET = -1


class OpenRun:
    """The last course of a case, and the deed that it is in."""

    def __init__(self, case):
        self.case = case
        self.course = case.courses[-1]
        self.frame = self.course.frames[-1]

    def half_of(self, name):
        """Return the half that a name means."""
        return self._living(self.frame.meanings[name])

    def _living(self, half):
        """Return a half, which must not have been dropped."""
        if half in self.course.dropped:
            raise Broken("dead", self.frame.at + 1)
        return half

    def twin_of(self, half):
        """Return the twin of a half."""
        if half >= FIRST_MADE:
            return half ^ 1
        return self.case.other_half(half, "twin")

    def end_of(self, path):
        """Return the half to which a path leads, and that has a label if the path asks for it."""
        half = self.half_of(path.name)
        for link in path.links:
            half = self._followed(half, link)
        if path.kind != HALF and half >= FIRST_MADE + self.course.made_before:
            raise Broken("unset", self.frame.at + 1)
        return half

    def _followed(self, half, link):
        """Return the half to which a link leads."""
        if link == "twin":
            return self.twin_of(half)
        written = self.course.written[link]
        other = written[half] if half in written else self.case.other_half(half, link)
        if other is None:
            raise Broken("unset", self.frame.at + 1)
        return self._living(other)

    def holds(self, condition):
        """Tell whether a condition holds."""
        first = self.end_of(condition.left)
        second = self.end_of(condition.right)
        kind = condition.left.kind
        if kind == HALF:
            return (first == second) == condition.equal
        return self.case.are_alike(kind, self.course.since, first, second) == condition.equal

    def note(self, label, action, half):
        """Note a label line.

        Behind it no link is written, so it does not matter for the verdict that
        the links are looked at only at the end.
        """
        kind, origin, number = label
        self.course.label_lines[kind].append((action, half, origin, number))

    def check_links(self):
        """Raise the error if the links are not right."""
        if not self._are_mutual() or self._has_changed_unread():
            raise Broken("links", self.frame.at + 1)

    def _are_mutual(self):
        """Tell whether the links of all halves lead to living ones whose links lead back."""
        for half in self.course.living(self.case.many):
            for there, back in (("next", "prev"), ("prev", "next")):
                other = self._present(half, there)
                if other is None or other in self.course.dropped:
                    return False
                if other != NOT_MET and self._present(other, back) != half:
                    return False
        return True

    def _present(self, half, link):
        """Return the half to which a link leads, NOT_MET or None."""
        written = self.course.written[link]
        if half in written:
            return written[half]
        return self.case.links[link].get(half, NOT_MET)

    def _has_changed_unread(self):
        """Tell whether a link was written or dropped to which a half that was not met leads back."""
        for link in ("next", "prev"):
            known = self.case.links[link]
            changed = list(self.course.written[link]) + list(self.course.dropped)
            if any([half < FIRST_MADE and half not in known for half in changed]):
                return True
        return False


def go_on(case):
    """Go on with the last course of a case until a routine or the deed ends."""
    course = case.courses[-1]
    many = len(course.spans)
    while course.frames and len(course.spans) == many:
        opened = OpenRun(case)
        frame = opened.frame
        if frame.at == len(frame.deed.steps):
            _end(opened)
        else:
            step = frame.deed.steps[frame.at]
            if step.action in ACTIONS:
                action = ACTIONS[step.action]
                action(opened, step)
            frame.at = _place_behind(opened, step)


def _place_behind(opened, step):
    """Return the index of the line behind one that has been executed."""
    frame = opened.frame
    jumps_over = step.action == "else"
    if step.action == "if":
        jumps_over = not opened.holds(step.detail)
        if step.detail.left.kind != HALF:
            opened.course.checked.append(not jumps_over)
    if jumps_over:
        return frame.deed.jumps[frame.at]
    return frame.at + 1


def _end(opened):
    """End the routine or the script that is being run."""
    course = opened.course
    if not isinstance(opened.frame.deed, Script):
        opened.check_links()
        _end_span(opened.case, course)
    course.frames.pop()
    if course.frames:
        _take_told(course.frames[-1], opened.frame)


def _end_span(case, course):
    """Note that a routine has ended."""
    course.spans.append(Span(course.since, len(case.stages), course.label_lines))
    course.since = len(case.stages)
    course.made_before = course.made
    course.label_lines = {kind: [] for kind in KINDS}
    case.stages.append(Stage(course.written, course.dropped, course.made))


def _take_told(frame, ended):
    """Give the halves that a routine tells to the names in the line that called it."""
    step = frame.deed.steps[frame.at - 1]
    for name, told in zip(step.news, ended.deed.told):
        frame.meanings[name] = ended.meanings[told]


def _given(opened, step):
    """given COND: the facts of the deed itself have been looked at before"""
    if len(opened.course.frames) > 1 and not opened.holds(step.detail):
        raise Broken("facts", opened.frame.at + 1)


def _let(opened, step):
    """let X = P, let F = P.face, let C = P.corner"""
    half = opened.end_of(step.detail)
    kind = step.detail.kind
    opened.frame.meanings[step.news[0]] = half if kind == HALF else (kind, "old", half)


def _make(opened, step):
    """make X Y"""
    course = opened.course
    for name in step.news:
        half = FIRST_MADE + course.made
        opened.frame.meanings[name] = half
        course.written["next"][half] = None
        course.written["prev"][half] = None
        course.made += 1


def _link(opened, step):
    """X.next = Y, X.prev = Y"""
    first, second = [opened.half_of(name) for name in step.used]
    opened.course.written[step.detail][first] = second


def _drop(opened, step):
    """drop X, drop F, drop C"""
    meaning = opened.frame.meanings[step.used[0]]
    if isinstance(meaning, tuple):
        opened.note(meaning, "drop", None)
    else:
        twin = opened.twin_of(opened.half_of(step.used[0]))
        opened.course.dropped[meaning] = True
        opened.course.dropped[twin] = True


def _new(opened, step):
    """new face F, new corner C"""
    label = (step.kind, "new", opened.frame.at)
    opened.note(label, "new", None)
    opened.frame.meanings[step.news[0]] = label


def _label(opened, step):
    """X.face = F, X.corner = C, and the same with round"""
    half = opened.half_of(step.used[0])
    opened.note(opened.frame.meanings[step.used[1]], step.action, half)


def _some(opened, step):
    """F.some = X, C.some = X"""
    half = opened.half_of(step.used[1])
    opened.note(opened.frame.meanings[step.used[0]], "some", half)


def _tell(opened, step):
    """tell X .."""
    for name in step.used:
        opened.half_of(name)


def _call(opened, step):
    """call R X .., call Z .. = R X .."""
    halves = [opened.half_of(name) for name in step.used]
    opened.course.frames.append(Frame(opened.frame.deed.routine(step.detail), halves))


ACTIONS = {
    "given": _given,
    "let": _let,
    "make": _make,
    "link": _link,
    "drop": _drop,
    "new": _new,
    "label": _label,
    "round": _label,
    "some": _some,
    "tell": _tell,
    "call": _call,
}
