"""Whether deeds have the same effect on all meshes."""

from halfmeshes.cases import FIRST_MADE
from halfmeshes.errors import BadLine, Breaks, FactFails, NeverGiven, UnknownName, WrongKind
from halfmeshes.growing import grown, smallest, some_ways
from halfmeshes.judging import breaks, broken_case
from halfmeshes.likeness import renaming
from halfmeshes.meshes import Mesh
from halfmeshes.rounds import present
from halfmeshes.runs import check_facts, run_given
from halfmeshes.searching import Search
from halfmeshes.texts import read_routine

NOT_LOOKED_AT = ("routine", "given", "if", "else", "end", "tell")


def parting(first, second):
    """Return a mesh and halves on which the effects of two deeds differ, or None."""
    if Search([first, second]).following() is None:
        raise NeverGiven()
    for deed in (first, second):
        _check_right(deed)
    case = parting_case(first, second)
    if case is None:
        return None
    found = smallest(len(first.halves), lambda mesh, halves: _differ_on(first, second, mesh, halves))
    if found is None:
        return grown(case, some_ways(case), [])
    return found


def needless(routine):
    """Return the ascending list of the numbers of the lines that can be left out."""
    _check_right(routine)
    return [at + 1 for at, step in enumerate(routine.steps)
            if step.action not in NOT_LOOKED_AT and _is_needless(routine, at)]


def _is_needless(routine, at):
    """Tell whether a line can be left out of a routine."""
    try:
        shorter = read_routine("\n".join(routine.lines[:at] + routine.lines[at + 1:]))
    except (BadLine, UnknownName, WrongKind):
        return False
    return broken_case(shorter) is None and parting_case(routine, shorter) is None


def _check_right(deed):
    """Raise the error if a deed breaks, or if its facts never hold."""
    broken = breaks(deed)
    if broken is not None:
        raise Breaks(broken[0], broken[1])


def _differ_on(first, second, mesh, halves):
    """Tell whether the facts of two deeds hold on a mesh and their effects differ."""
    try:
        check_facts(first, mesh, halves)
        check_facts(second, mesh, halves)
    except FactFails:
        return False
    one = run_given(first, mesh, halves)
    other = run_given(second, mesh, halves)
    if sorted(one.kept) != sorted(other.kept):
        return True
    pairs = [(one.kept[half], other.kept[half]) for half in one.kept]
    return renaming(one.mesh, other.mesh, pairs) is None


def parting_case(first, second):
    """Return a case in which the effects of two deeds that never break differ, or None."""
    search = Search([first, second])
    case = search.ended()
    while case is not None:
        if not _have_same_effect(case):
            return case
        case = search.ended()
    return None


def _have_same_effect(case):
    """Tell whether the two runs of a case have the same effect."""
    kept = [[half for half in course.living(case.many) if half < FIRST_MADE] for course in case.courses]
    if kept[0] != kept[1]:
        return False
    found = _spread(case, kept[0])
    if found is None:
        return False
    # What was made and is not connected to a half that was there is a mesh by itself.
    images = list(found.values())
    apart = [_mesh_of(case.courses[0], list(found)), _mesh_of(case.courses[1], images)]
    return renaming(apart[0], apart[1], []) is not None


def _spread(case, kept):
    """Return the only renaming that keeps some halves and what is connected to them, or None."""
    first, second = case.courses
    found = {half: half for half in kept}
    images = dict(found)
    todo = list(kept)
    while todo:
        half = todo.pop()
        steps = [(present(case, first, half, "next"), present(case, second, found[half], "next"))]
        if half >= FIRST_MADE:
            steps.append((half ^ 1, found[half] ^ 1))
        for old, new in steps:
            if old in found or new in images or old is None or new is None:
                # A half that was not met is the next one in both runs or in none.
                if found.get(old) != new:
                    return None
            else:
                found[old] = new
                images[new] = old
                todo.append(old)
    return found


def _mesh_of(course, left_out):
    """Return the mesh of the halves that were made and remain, without some of them."""
    halves = [half for half in course.living(0) if half not in left_out]
    numbers = {half: number for number, half in enumerate(halves)}
    return Mesh([numbers[course.written["next"][half]] for half in halves])
