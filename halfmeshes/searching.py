"""All that can happen in runs of deeds, whatever mesh they start with."""

from halfmeshes.cases import Asked, Case, Course, Frame, LikeQuestion
from halfmeshes.courses import go_on
from halfmeshes.errors import Broken, FactFails
from halfmeshes.lines import HALF
from halfmeshes.rounds import is_possible


class Search:
    """The cases of some deeds that are run on the same mesh and halves, each from the start on.

    There are only cases in which the facts of all deeds hold; `is_given` tells
    whether there was one.
    """

    def __init__(self, deeds):
        self.deeds = tuple(deeds)
        self.todo = [Case(passed) for passed in _passings(len(self.deeds[0].halves))]
        self.is_given = False

    def following(self):
        """Return the next case in which a routine or deed has just ended or broken, or None.

        The search goes on with such a case only if it is put back.
        """
        while self.todo:
            case = self.todo.pop()
            if self._has_stopped(case):
                self.is_given = True
                return case
        return None

    def ended(self):
        """Return the next case in which all deeds have ended or one has broken, or None."""
        case = self.following()
        while case is not None and not self.is_over(case):
            self.put_back(case)
            case = self.following()
        return case

    def put_back(self, case):
        """Let the search go on with a case."""
        self.todo.append(case)

    def is_over(self, case):
        """Tell whether all deeds have ended in a case, or one has broken."""
        return case.is_broken or has_ended(case, self.deeds)

    def _has_stopped(self, case):
        """Go on with a case, and tell whether it came to the end of a routine or deed."""
        try:
            proceed(case, self.deeds)
        except Asked as asked:
            self.todo.extend(_answered(case, asked.question))
            return False
        except FactFails:
            return False
        except Broken:
            case.is_broken = True
        return True


def has_ended(case, deeds):
    """Tell whether all deeds have ended in a case."""
    return len(case.courses) == len(deeds) and not case.courses[-1].frames


def proceed(case, deeds):
    """Go on with a case until a routine or deed ends.

    Asked is raised if the case has to be told more before, Broken if the run
    breaks, and FactFails if a fact does not hold.
    """
    _check_facts(case, deeds)
    if not case.courses or not case.courses[-1].frames:
        deed = deeds[len(case.courses)]
        case.courses.append(Course([Frame(deed, case.passed)]))
    go_on(case)


def _passings(many):
    """Return the lists of the numbers that so many halves can have when they are passed."""
    found = [[]]
    for _ in range(many):
        found = [row + [half] for row in found for half in range(max(row, default=-1) + 2)]
    return found


def _answered(case, question):
    """Return the possible cases in which a question has an answer."""
    found = []
    if isinstance(question, LikeQuestion):
        for is_like in (True, False):
            other = case.branched()
            other.learn_like(question, is_like)
            found.append(other)
    else:
        for half in case.possible_links(question):
            other = case.branched()
            other.learn_link(question, half)
            found.append(other)
    return [other for other in found if is_possible(other)]


def _check_facts(case, deeds):
    """Look at the facts that were not looked at yet; raise the error if one does not hold."""
    facts = [(deed, at) for deed in deeds for at, step in enumerate(deed.steps) if step.action == "given"]
    while case.facts < len(facts):
        deed, at = facts[case.facts]
        if not _agrees(case, dict(zip(deed.halves, case.passed)), deed.steps[at].detail):
            raise FactFails(at + 1)
        case.facts += 1


def _agrees(case, meanings, condition):
    """Tell whether a fact holds, which a fact about faces or corners does if it can."""
    first = _reached(case, meanings[condition.left.name], condition.left.links)
    second = _reached(case, meanings[condition.right.name], condition.right.links)
    kind = condition.left.kind
    if kind == HALF:
        return (first == second) == condition.equal
    try:
        return case.are_alike(kind, 0, first, second) == condition.equal
    except Asked as asked:
        case.learn_like(asked.question, condition.equal)
    return is_possible(case)


def _reached(case, start, links):
    """Return the half that is reached by some links at the start."""
    half = start
    for link in links:
        half = case.other_half(half, link)
    return half
