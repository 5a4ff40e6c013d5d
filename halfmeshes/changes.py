"""How a deed changes the numbers of faces, corners, edges, pieces and handles."""

from halfmeshes.errors import Breaks, FactFails
from halfmeshes.growing import Ways, grown, smallest
from halfmeshes.judging import breaks
from halfmeshes.pieces import Pieces
from halfmeshes.rounds import Rounds
from halfmeshes.runs import run
from halfmeshes.searching import Search


def changes(deed):
    """Return all changes of a deed that never breaks, each with a mesh and halves."""
    broken = breaks(deed)
    if broken is not None:
        raise Breaks(broken[0], broken[1])
    known = known_changes(deed)
    shown = {}
    smallest(len(deed.halves), lambda mesh, halves: _shows_last(deed, mesh, halves, known, shown))
    for change, (case, ways, joined) in known.items():
        if change not in shown:
            shown[change] = grown(case, ways, joined)
    return [(change, shown[change][0], shown[change][1]) for change in sorted(shown)]


def _shows_last(deed, mesh, halves, known, shown):
    """Note the change on a mesh if it is a new one, and tell whether all are shown."""
    try:
        outcome = run(deed, mesh, halves)
    except FactFails:
        return False
    change = tuple([new - old for new, old in zip(outcome.mesh.counts(), mesh.counts())])
    shown.setdefault(change, (mesh, halves))
    return all([one in shown for one in known])


def known_changes(deed):
    """Return the dict of all changes, with the case, the ways and the joined halves that cause each."""
    found = {}
    search = Search([deed])
    case = search.ended()
    while case is not None:
        _add_changes(case, found)
        case = search.ended()
    return found


def _add_changes(case, found):
    """Add the changes of a case to those that were found."""
    faces = Rounds(case, "face")
    corners = Rounds(case, "corner")
    pieces = Pieces(case)
    face_kinds = _kinds_of_rows(faces, pieces)
    corner_kinds = _kinds_of_rows(corners, pieces)
    seen = {}
    for (more_faces, face_classes), face_row in face_kinds.items():
        for (more_corners, corner_classes), corner_row in corner_kinds.items():
            pairs = list(enumerate(face_classes)) + list(enumerate(corner_classes))
            classes = tuple(pieces.classes(pairs))
            if (more_faces, more_corners, classes) not in seen:
                seen[(more_faces, more_corners, classes)] = True
                ways = Ways(faces, face_row, corners, corner_row)
                for more_pieces, joined in pieces.changes_with(classes).items():
                    change = _change(case, more_faces, more_corners, more_pieces)
                    found.setdefault(change, (case, ways, joined))


def _kinds_of_rows(rounds, pieces):
    """Return a dict of rows of ways, by the change of the number of rounds and by what they connect."""
    last = len(rounds.case.stages) - 1
    found = {}
    for row in rounds.rows():
        more = _count(rounds.numbers_at(last, row)) - _count(rounds.numbers_at(0, row))
        classes = tuple(pieces.connected(rounds, row))
        found.setdefault((more, classes), row)
    return found


def _count(numbers):
    """Return how many rounds have these numbers."""
    return max([number for number in numbers if number is not None], default=-1) + 1


def _change(case, more_faces, more_corners, more_pieces):
    """Return the change with some differences."""
    course = case.courses[-1]
    more_edges = (course.made - len(course.dropped)) // 2
    more_handles = more_pieces - (more_corners - more_edges + more_faces) // 2
    return (more_faces, more_corners, more_edges, more_pieces, more_handles)
