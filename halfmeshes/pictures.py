"""The pictures of runs: what they read of their meshes."""

from halfmeshes.cases import Asked, Case, LikeQuestion
from halfmeshes.errors import Broken
from halfmeshes.growing import grown, some_ways
from halfmeshes.runs import are_same, check_facts, link_of
from halfmeshes.searching import Search, proceed


def picture(routine, mesh, halves):
    """Return the picture of the run of a routine on a mesh."""
    check_facts(routine, mesh, halves)
    met = []
    for half in halves:
        if half not in met:
            met.append(half)
    case = Case([met.index(half) for half in halves])
    is_open = True
    while is_open:
        try:
            proceed(case, [routine])
            is_open = False
        except Asked as asked:
            _answer(case, met, mesh, asked.question)
        except Broken:
            is_open = False
    return case.picture()


def _answer(case, met, mesh, question):
    """Tell a case what a mesh answers, of which some halves were met."""
    if isinstance(question, LikeQuestion):
        first, second = [met[number] for number in question.halves]
        case.learn_like(question, are_same(mesh, question.kind, first, second))
    else:
        other = link_of(mesh, met[question.start], question.link)
        if other not in met:
            met.append(other)
        case.learn_link(question, met.index(other))


def pictures(routine):
    """Return all pictures of a routine, each with a mesh and halves that show it."""
    search = Search([routine])
    found = []
    case = search.ended()
    while case is not None:
        mesh, halves = grown(case, some_ways(case), [])
        found.append((case.picture(), mesh, halves))
        case = search.ended()
    return found
