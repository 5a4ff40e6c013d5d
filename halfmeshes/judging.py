"""Whether a deed leaves a correct mesh on every mesh for which its facts hold."""

from halfmeshes.cases import KINDS
from halfmeshes.errors import Broken, FactFails, NeverGiven
from halfmeshes.growing import Ways, smallest, widely_grown
from halfmeshes.labels import are_right
from halfmeshes.rounds import Rounds
from halfmeshes.runs import run
from halfmeshes.searching import Search


def breaks(deed):
    """Return a mesh and halves on which a deed breaks, or None."""
    broken = broken_case(deed)
    if broken is None:
        return None
    found = smallest(len(deed.halves), lambda mesh, halves: _breaks_on(deed, mesh, halves))
    if found is None:
        case, ways = broken
        return widely_grown(case, ways)
    return found


def _breaks_on(deed, mesh, halves):
    """Tell whether the facts of a deed hold on a mesh and its run breaks."""
    try:
        run(deed, mesh, halves)
    except FactFails:
        return False
    except Broken:
        return True
    return False


def broken_case(deed):
    """Return a tuple of a case and of ways with which a deed breaks, or None.

    NeverGiven is raised if the facts of the deed hold for no mesh.
    """
    search = Search([deed])
    case = search.following()
    while case is not None:
        rounds = [Rounds(case, kind) for kind in KINDS]
        rows = _broken_rows(case, rounds)
        if rows is not None:
            return (case, Ways(rounds[0], rows[0], rounds[1], rows[1]))
        if not search.is_over(case):
            search.put_back(case)
        case = search.following()
    if not search.is_given:
        raise NeverGiven()
    return None


def _broken_rows(case, rounds):
    """Return the two rows of ways with which a case breaks, or None.

    If a routine has just ended, the labels are looked at that it has left.
    """
    rows = [one.rows(1)[0] for one in rounds]
    if case.is_broken:
        return rows
    spans = case.courses[-1].spans
    if len(spans) == case.judged:
        return None
    case.judged = len(spans)
    for at, one in enumerate(rounds):
        row = _wrong_row(one, spans[-1])
        if row is not None:
            rows[at] = row
            return rows
    return None


def _wrong_row(rounds, span):
    """Return a row of ways with which a routine leaves wrong labels, or None."""
    for row in rounds.rows():
        if not are_right(rounds, span, row):
            return row
    return None
