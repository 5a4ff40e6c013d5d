"""Looking at deeds on many meshes, one after the other."""

from itertools import product

from halfmeshes.errors import Broken, FactFails
from halfmeshes.likeness import small_meshes
from halfmeshes.meshes import Mesh
from halfmeshes.runs import run
from halfmeshes.searching import Search
from tests import drawing, helpers

FAILS, BREAKS = "facts", "breaks"


def all_rows(edges, many):
    """Every mesh with a number of edges, with every list of halves."""
    return [(Mesh(nexts), list(halves)) for nexts in helpers.all_nexts(edges)
            for halves in product(range(2 * edges), repeat=many)]


ALL_ROWS = {many: all_rows(1, many) + all_rows(2, many) for many in (1, 2)}


def drawn_rows(seed, many, count=30):
    """Drawn meshes with 1 to 6 edges, and halves that often lie together."""
    draws = drawing.Draws(seed)
    for _ in range(count):
        pick = draws.pick((helpers.scattered_nexts, helpers.pieced_nexts))
        nexts = pick(1 + draws.below(6), draws.below(10 ** 6))
        yield Mesh(nexts), drawing.draw_halves(draws, nexts, many)


def result(deed, mesh, halves):
    """How the numbers change when a deed is run, or FAILS or BREAKS."""
    try:
        outcome = run(deed, mesh, halves)
    except FactFails:
        return FAILS
    except Broken:
        return BREAKS
    return tuple(new - old for new, old in zip(outcome.mesh.counts(), mesh.counts()))


def results(deed, seed):
    """The results on all meshes with one and two edges and on drawn ones, without those that fail."""
    many = len(deed.halves)
    for mesh, halves in ALL_ROWS[many] + list(drawn_rows(seed, many)):
        one = result(deed, mesh, halves)
        if one != FAILS:
            yield one, mesh, halves


def least_edges(many, shows, most=4):
    """The number of edges of a smallest mesh for which a function returns True, or None."""
    for edges in range(1, most + 1):
        rows = all_rows(edges, many) if edges < 3 else small_meshes(edges, many)
        if any(shows(mesh, halves) for mesh, halves in rows):
            return edges
    return None


def is_within_limits(*deeds):
    """Whether the document allows to pass the deeds, at most two halves and six reads."""
    if any(len(deed.halves) > 2 for deed in deeds):
        return False
    search = Search(deeds)
    case = search.ended()
    while case is not None:
        checked = sum(len(course.checked) for course in case.courses)
        if len(case.reads) > 6 or checked > 4 or max(course.made for course in case.courses) > 6:
            return False
        case = search.ended()
    return True
