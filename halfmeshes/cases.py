"""What is known of a mesh while runs on it go on, and what they have done.

The halves of the mesh have the numbers of point 30, in the order in which they
are met; the halves of new edges have numbers from FIRST_MADE on, in pairs. A
case stands for all meshes of which the same is known.
"""

from halfmeshes.errors import MeshError

FIRST_MADE = 1000
KINDS = ("face", "corner")
BACK = {"next": "prev", "prev": "next", "twin": "twin"}


class Asked(MeshError):
    """A run goes on in one way or another, as something is that is not known."""

    def __init__(self, question):
        super().__init__("this is not known yet")
        self.question = question


class LinkQuestion:
    """To which half a link of the mesh at the start leads."""

    def __init__(self, start, link):
        self.start = start
        self.link = link


class LikeQuestion:
    """Whether two halves are in one face, or one corner, at a stage."""

    def __init__(self, kind, stage, halves):
        self.kind = kind
        self.stage = stage
        self.halves = halves


class Stage:
    """The mesh between two routines: what was written, dropped and made until then."""

    def __init__(self, written, dropped, made):
        self.written = {link: dict(written[link]) for link in written}
        self.dropped = dict(dropped)
        self.made = made


class Span:
    """A routine that has ended: the stages around it, and its label lines."""

    def __init__(self, since, until, label_lines):
        self.since = since
        self.until = until
        self.label_lines = {kind: tuple(label_lines[kind]) for kind in label_lines}


class Frame:
    """A deed that is being run: the next line, and what the names mean."""

    def __init__(self, deed, halves):
        self.deed = deed
        self.at = 0
        self.meanings = dict(zip(deed.halves, halves))

    def branched(self):
        """Return a copy."""
        other = Frame(self.deed, [])
        other.at = self.at
        other.meanings = dict(self.meanings)
        return other


class Course:
    """A run of a deed as far as it has come.

    A link that was written as None is unset. `since` is the number of the
    stage with which the present routine began, `made_before` the number of the
    halves that had been made by then.
    """

    def __init__(self, frames):
        self.frames = frames
        self.written = {"next": {}, "prev": {}}
        self.dropped = {}
        self.made = 0
        self.since = 0
        self.made_before = 0
        self.label_lines = {kind: [] for kind in KINDS}
        self.checked = []
        self.spans = []

    def branched(self):
        """Return a copy."""
        other = Course([frame.branched() for frame in self.frames])
        other.written = {link: dict(self.written[link]) for link in self.written}
        other.dropped = dict(self.dropped)
        other.made = self.made
        other.since = self.since
        other.made_before = self.made_before
        other.label_lines = {kind: list(self.label_lines[kind]) for kind in KINDS}
        other.checked = list(self.checked)
        other.spans = list(self.spans)
        return other

    def living(self, many):
        """Return the halves that are there, of so many that were met and of new edges."""
        halves = list(range(many)) + list(range(FIRST_MADE, FIRST_MADE + self.made))
        return [half for half in halves if half not in self.dropped]


class Case:
    """What is known of a mesh, and the runs that started with it, the last one still going on.

    `likes` tells for tuples of a kind, a stage and two halves whether these
    are in one face, or one corner, at this stage. `facts` is the number of the
    facts that were looked at, `judged` that of the routines whose labels were.
    """

    def __init__(self, passed):
        self.passed = tuple(passed)
        self.many = max(passed) + 1
        self.links = {link: {} for link in BACK}
        self.reads = []
        self.likes = {}
        self.facts = 0
        self.judged = 0
        self.stages = [Stage({"next": {}, "prev": {}}, {}, 0)]
        self.courses = []
        self.is_broken = False

    def branched(self):
        """Return a copy. Stages and courses that have ended never change."""
        other = Case(self.passed)
        other.many = self.many
        other.links = {link: dict(self.links[link]) for link in self.links}
        other.reads = list(self.reads)
        other.likes = {key: self.likes[key] for key in self.likes}
        other.facts = self.facts
        other.judged = self.judged
        other.stages = list(self.stages)
        other.courses = self.courses[:-1] + [course.branched() for course in self.courses[-1:]]
        return other

    def other_half(self, half, link):
        """Return the half to which a link of the mesh at the start leads."""
        known = self.links[link]
        if half not in known:
            raise Asked(LinkQuestion(half, link))
        return known[half]

    def possible_links(self, question):
        """Return the halves to which a link that is not known may lead."""
        reached = self.links[BACK[question.link]]
        halves = [half for half in range(self.many + 1) if half not in reached]
        # No half is its own twin.
        return [half for half in halves if question.link != "twin" or half != question.start]

    def learn_link(self, question, other):
        """Note to which half a link leads."""
        self.links[question.link][question.start] = other
        self.links[BACK[question.link]][other] = question.start
        self.many = max(self.many, other + 1)
        self.reads.append((question.start, question.link, other))

    def are_alike(self, kind, stage, first, second):
        """Tell whether two halves are in one face, or one corner, at a stage."""
        if first == second:
            return True
        halves = (min(first, second), max(first, second))
        if (kind, stage, halves) not in self.likes:
            raise Asked(LikeQuestion(kind, stage, halves))
        return self.likes[(kind, stage, halves)]

    def learn_like(self, question, is_like):
        """Note whether two halves are in one face, or one corner."""
        self.likes[(question.kind, question.stage, question.halves)] = is_like

    def picture(self):
        """Return the picture of the only run."""
        checked = [is_like for course in self.courses for is_like in course.checked]
        return (list(self.passed), list(self.reads), checked)
