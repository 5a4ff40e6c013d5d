"""Scripts, and books of routines and scripts that are read from their texts."""

from halfmeshes.errors import BadLine, UnknownDeed, UnknownName
from halfmeshes.lines import HALF, Step, read_step
from halfmeshes.texts import Routine, Scope, read_head, routine_of, told_names

MOST_LINES = 20


class Script:
    """A script that was read; it never changes. `steps` has an entry for each line."""

    def __init__(self, name, halves, lines, steps, routines):
        self.name = name
        self.halves = tuple(halves)
        self.told = told_names(steps)
        self.lines = tuple(lines)
        self.steps = tuple(steps)
        self._routines = dict(routines)

    def __len__(self):
        return len(self.lines)

    def routine(self, name):
        """Return the routine with this name that the script calls."""
        if name not in self._routines:
            raise UnknownDeed(name)
        return self._routines[name]


class Book:
    """Routines and scripts by their names; it never changes."""

    def __init__(self, deeds):
        self._deeds = dict(deeds)

    def __getitem__(self, name):
        if name not in self._deeds:
            raise UnknownDeed(name)
        return self._deeds[name]

    def __contains__(self, name):
        return name in self._deeds

    def __len__(self):
        return len(self._deeds)

    def __iter__(self):
        raise TypeError("a book is not iterated over, its names are")

    def names(self):
        """Return the names of the deeds, in the order of the text."""
        return list(self._deeds)


def read_book(text):
    """Return the book of a text."""
    deeds = {}
    first = 1
    for lines in _parts(text.split("\n")):
        # The wrong empty line stands ahead of a part without lines, except
        # where it is the first line of the text.
        if not lines:
            raise BadLine(max(first - 1, 1))
        deed = _deed_of(lines, first, deeds)
        deeds[deed.name] = deed
        first += len(lines) + 1
    return Book(deeds)


def _parts(lines):
    """Return the lists of the lines between empty lines."""
    parts = [[]]
    for line in lines:
        if line == "":
            parts.append([])
        else:
            parts[-1].append(line)
    return parts


def _deed_of(lines, first, deeds):
    """Return the deed of some lines, counted from `first` on, below others."""
    if lines[0].startswith("script "):
        return _script_of(lines, first, deeds)
    return routine_of(lines, first, deeds)


def _script_of(lines, first, deeds):
    """Return the script of some lines, counted from `first` on, below some deeds."""
    name, halves = read_head("script", lines[0], first, deeds)
    scope = Scope(halves)
    steps = [Step("script")]
    routines = {}
    for at in range(1, len(lines)):
        number = first + at
        step = read_step(lines[at])
        if step is None or at > MOST_LINES or not scope.can_bind(step.news):
            raise BadLine(number)
        if not _may_stand(steps, step, at + 1 == len(lines)):
            raise BadLine(number)
        if step.action == "call":
            routines[step.detail] = _called(step, deeds, number)
        scope.check_uses(step, number)
        scope.bind(step)
        steps.append(step)
    return Script(name, halves, lines, steps, routines)


def _may_stand(steps, step, is_last):
    """Tell whether a line of this form may stand in a script behind some lines."""
    if step.action == "given":
        return steps[-1].action in ("script", "given")
    if step.action == "tell":
        return is_last
    if step.action == "let":
        return step.kind == HALF
    return step.action == "call"


def _called(step, deeds, number):
    """Return the routine that a line calls."""
    routine = deeds.get(step.detail)
    if not isinstance(routine, Routine):
        raise UnknownName(number, step.detail)
    if len(step.used) != len(routine.halves):
        raise BadLine(number)
    if step.news and len(step.news) != len(routine.told):
        raise BadLine(number)
    return routine
